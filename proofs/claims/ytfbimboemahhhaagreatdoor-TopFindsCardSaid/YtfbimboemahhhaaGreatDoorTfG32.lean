/-
  Several texts in one: The contract of file; The contracts of file.
-/
import Derived.Test.YtfbimboemahhhaaGreatDoorTfG31
import Derived.Test.YtfbimboemahhhaaGreatDoorTfG22
import Derived.Test.YtfbimboemahhhaaGreatDoorTfG27
import Derived.Test.YtfbimboemahhhaaGreatDoorTfG23
import Derived.Test.YtfbimboemahhhaaGreatDoorTfG4
import Derived.Test.YtfbimboemahhhaaGreatDoorTfG6
import Derived.Test.YtfbimboemahhhaaGreatDoorTfG24
import Derived.Test.YtfbimboemahhhaaGreatDoorTfG21
namespace Go.Proofs.YtfbimboemahhhaaGreatDoor
open Go.Lib (hid)
open Go.RowKit
set_option maxRecDepth 100000
set_option linter.unusedVariables false
def TabC (l : List UInt8) (S0 : Value) (w : World) (cs : Array Value) : Prop :=
 ∃ A1 c1 A2 c2, cs = #[S0, .slice A1 (nP l) c1, .slice A2 (nS l - 1) c2, .int .u64 (nI l : Nat)] ∧ ZS w w.heap.size 8 A1 (nP l) c1 (pgR l (nP l)) ∧ ZS w w.heap.size 10 A2 (nS l - 1) c2 (scR l (nS l - 1))
def TabsR (l : List UInt8) (S0 : Value) (w : World) (e : Ending) (w' : World) : Prop :=
 ∃ v a b c d, e = .returned (.tuple #[.agg #[a, b, c, d], v]) ∧ Err w' v (tabE l).1 (tabE l).2 ∧ ((tabE l).1 = 0 → TabC l S0 w' #[a, b, c, d]) ∧ ((tabE l).1 ≠ 0 → a = .slice none 0 0 ∧ b = .slice none 0 0 ∧ c = .slice none 0 0 ∧ d = .int .u64 0) ∧ Grow w w'
theorem tab_ret {K : Ending → World → Prop} {W : World} {tmps : Array Value} {g : Nat} {ev a b c d : Value} (ht : tmps.getD 6 undef = .pointer (some ⟨g, 0, none⟩)) (he : tmps.getD 7 undef = ev)
  (hx : Blk W g 120 #[a, b, c, d]) (hk : K (.returned (.tuple #[.agg #[a, b, c, d], ev])) W) : bodyPost Tryz.prog Tryz.f43 K .ret ⟨tmps, []⟩ W := by
 refine bodyPost_ret (v := .tuple #[.agg #[a, b, c, d], ev]) ?_ rfl hk
 rw [results_cell_tmp rfl, ht, he]
 simp [asAddr, Result.andThen, hx.var _ _ Tryz.underlying120 rfl (by kernel_rfl)]
theorem fst_range {f : Nat → Nat} {n k : Nat} (hk : k < n) (h1 : ∀ j, j < k → f j = 0) (h2 : f k ≠ 0) : fstC f (List.range n) = f k := by
 have := fstC_at (f := f) (l := List.range n) (k := k) (by simpa using hk) (fun a ha => by
  rw [List.take_range] at ha
  exact h1 a (by have := List.mem_range.1 ha; omega)) (by simpa using h2)
 simpa using this
theorem fst_none {f : Nat → Nat} {n : Nat} (h1 : ∀ j, j < n → f j = 0) : fstC f (List.range n) = 0 := fstC_zero.2 fun a ha => h1 a (List.mem_range.1 ha)
structure TB (w W : World) (g0 g1 g2 g3 g4 : Nat) (c0 : Array Value) (P S I : Nat) (S0 X1 X2 : Value) (wide big : Bool) : Prop where
 h : Blk W g0 110 c0
 n : Blk W g1 114 #[.int .u64 (P : Int), .int .u64 (S : Int), .int .u64 (I : Int)]
 z : Blk W g2 120 #[.slice none 0 0, .slice none 0 0, .slice none 0 0, .int .u64 0]
 t : Blk W g3 120 #[S0, X1, X2, .int .u64 (I : Int)]
 f : Blk W g4 23 #[.bool wide, .bool big]
 g : Grow w W
structure TBA (w : World) (g0 g1 g2 g3 g4 base : Nat) : Prop where
 b : base = g4 + 1
 a0 : g0 < base
 a1 : g1 < base
 a2 : g2 < base
 a3 : g3 < base
 a4 : g4 < base
 w2 : w.heap.size ≤ g2
 w3 : w.heap.size ≤ g3
 wb : w.heap.size ≤ base
 n0 : g0 ≠ g3
 n1 : g1 ≠ g3
 n2 : g2 ≠ g3
 n4 : g4 ≠ g3
section
variable {w W W' : World} {g0 g1 g2 g3 g4 base : Nat} {c0 : Array Value} {P S I : Nat} {S0 X1 X2 : Value} {wide big : Bool}
theorem TB.grow (h : TB w W g0 g1 g2 g3 g4 c0 P S I S0 X1 X2 wide big) (hg : Grow W W') : TB w W' g0 g1 g2 g3 g4 c0 P S I S0 X1 X2 wide big :=
 ⟨h.h.grow hg, h.n.grow hg, h.z.grow hg, h.t.grow hg, h.f.grow hg, h.g.trans hg⟩
theorem TB.by (h : TB w W g0 g1 g2 g3 g4 c0 P S I S0 X1 X2 wide big) (a : TBA w g0 g1 g2 g3 g4 base) {row : Option Nat} (hg : W.grownBy W' row) (hr : ∀ k, row = some k → base ≤ k) : TB w W' g0 g1 g2 g3 g4 c0 P S I S0 X1 X2 wide big :=
 have key : ∀ g, g < base → some g ≠ row := fun g hl e => by have := hr g e.symm; omega
 ⟨h.h.grownBy hg (key _ a.a0), h.n.grownBy hg (key _ a.a1), h.z.grownBy hg (key _ a.a2), h.t.grownBy hg (key _ a.a3), h.f.grownBy hg (key _ a.a4), h.g.trans' ((Below.refl _ W).grown hg h.g.size fun k hk => Nat.le_trans a.wb (hr k hk))⟩
theorem TB.set (h : TB w W g0 g1 g2 g3 g4 c0 P S I S0 X1 X2 wide big) (a : TBA w g0 g1 g2 g3 g4 base) (Y1 Y2 : Value) : TB w (W.setRow g3 #[S0, Y1, Y2, .int .u64 (I : Int)]) g0 g1 g2 g3 g4 c0 P S I S0 Y1 Y2 wide big :=
 ⟨h.h.other a.n0 _, h.n.other a.n1 _, h.z.other a.n2 _, h.t.set _, h.f.other a.n4 _, h.g.set a.w3 _⟩
theorem TB.base_le (h : TB w W g0 g1 g2 g3 g4 c0 P S I S0 X1 X2 wide big) (a : TBA w g0 g1 g2 g3 g4 base) : base ≤ W.heap.size := by have := h.f.lt; have := a.b; omega
end
set_option maxHeartbeats 20000000 in
theorem flRead_any (l : List UInt8) (A : Option Addr) (n c : Nat) (w : World) (hr : RB w w.heap.size A n c l) (hc0 : (cntE l).1 = 0) (hlen : l.length ≤ 65536) :
  Calls Tryz.prog 43 #[.slice A n c, (hdOf l).V, .agg #[.int .u64 (nP l : Nat), .int .u64 (nS l : Nat), .int .u64 (nI l : Nat)]] w (TabsR l (.slice A n c) w) := by
 have hn := hr.len
 have hnm : n ≤ maxLen := Nat.le_trans hr.cap hr.max
 have hPg : nP l ≤ 16 := (pg_ok (cnt_ok hc0).2.1).1
 have hSc : nS l ≤ 65 := by rcases sc_ok (cnt_ok hc0).1 with h | h <;> omega
 have HIn := hid (fun p m W => isIn_any A n c p m W hnm)
 have HPG : Hid (∀ k, k < nP l → ∀ W, Grow w W → Calls Tryz.prog 94 #[.slice A n c, .int .u64 (pAt l k : Nat), .agg #[.bool (lWide l), .bool (lBig l)]] W fun e w' => e = .returned (.tuple #[(pgs l k).V, .nilIface]) ∧ Grow W w') := hid fun k hk W hg => by
  have hin := pAt_in hc0 hk
  refine (pGet_any A n c l (pAt l k) (lWide l) (lBig l) W (hr.grow hg) (by omega)).mono fun e w' h => ?_
  rcases h with ⟨_, h1, h2⟩ | ⟨h0, _⟩
  ·exact ⟨h1, h2⟩
  ·omega
 have HSG : Hid (∀ k, k < nS l → ∀ W, Grow w W → Calls Tryz.prog 89 #[.slice A n c, .int .u64 (sAt l k : Nat), .agg #[.bool (lWide l), .bool (lBig l)]] W fun e w' => e = .returned (.tuple #[(scs l k).V, .nilIface]) ∧ Grow W w') := hid fun k hk W hg => by
  have hin := sAt_in hc0 hk
  refine (sGet_any A n c l (sAt l k) (lWide l) (lBig l) W (hr.grow hg) (by omega)).mono fun e w' h => ?_
  rcases h with ⟨_, h1, h2⟩ | ⟨h0, _⟩
  ·exact ⟨h1, h2⟩
  ·omega
 have HPB : Hid (∀ k, k < nP l → pAt l k ≤ 65536) := hid fun k hk => by have := pAt_in hc0 hk; omega
 have HSB : Hid (∀ k, k < nS l → sAt l k ≤ 65536) := hid fun k hk => by have := sAt_in hc0 hk; omega
 have HPA : Hid (∀ k, (hdOf l).ph + k * pSize (lWide l) = pAt l k) := hid fun k => rfl
 have HSA : Hid (∀ k, (hdOf l).sh + k * sSize (lWide l) = sAt l k) := hid fun k => rfl
 have HPE : Hid (∀ k, pBad l k = if inB n (pgs l k).off (pgs l k).fs then 0 else pAt l k + 1) := hid fun k => by rw [hn]; rfl
 have HSE : Hid (∀ k, sBad l k = if inB n (scs l (k + 1)).off (scs l (k + 1)).held then 0 else sAt l (k + 1) + 1) := hid fun k => by rw [hn]; rfl
 have HPs := hid (fun W => pSize_any (lWide l) (lBig l) W)
 have HSs := hid (fun W => sSize_any (lWide l) (lBig l) W)
 have HTE : Hid (tabE l = if fstC (pBad l) (List.range (nP l)) ≠ 0 then (5, fstC (pBad l) (List.range (nP l)) - 1) else if fstC (sBad l) (List.range (nS l - 1)) ≠ 0 then (5, fstC (sBad l) (List.range (nS l - 1)) - 1) else (0, 0)) := hid rfl
 have HPc := hid (pgR_succ l)
 have HSc := hid (scR_succ l)
 have hpz : pSize (lWide l) ≤ 64 := by cases lWide l <;> decide
 have hsz : sSize (lWide l) ≤ 64 := by cases lWide l <;> decide
 unfold TabsR TabC
 have HPl : Hid (nP l ≤ 16) := hid hPg
 have HSl : Hid (nS l ≤ 65) := hid hSc
 have HR0 : Hid (pgR l 0 = [] ∧ scR l 0 = []) := hid ⟨rfl, rfl⟩
 clear hr hc0 hlen hn hnm
 obtain ⟨y2, y3, y4, y5, y6, y9, y10, y11, y12, hC⟩ : ∃ y2 y3 y4 y5 y6 y9 y10 y11 y12 : Value, (hdOf l).C = #[.bool (lWide l), .bool (lBig l), y2, y3, y4, y5, y6, .int .u64 ((hdOf l).ph : Nat), .int .u64 ((hdOf l).sh : Nat), y9, y10, y11, y12] := ⟨_, _, _, _, _, _, _, _, _, rfl⟩
 unfold Hd.V
 rw [hC]
 clear hC
 have z1 : IntKind.i64.wrap (nP l : Int) = (nP l : Int) := by rw [IntKind.wrap_i64]; omega
 have z2 : IntKind.i64.wrap (nS l : Int) = (nS l : Int) := by rw [IntKind.wrap_i64]; omega
 generalize nP l = P at *
 generalize nS l = S at *
 generalize nI l = I at *
 generalize (hdOf l).ph = ph at *
 generalize (hdOf l).sh = sh at *
 generalize lWide l = wide at *
 generalize lBig l = big at *
 generalize tabE l = E at *
 generalize pgR l = PR at *
 generalize scR l = SR at *
 generalize pBad l = pB at *
 generalize sBad l = sB at *
 generalize pAt l = pA at *
 generalize sAt l = sA at *
 generalize pgs l = pgF at *
 generalize scs l = scF at *
 clear hPg hSc
 go_enter Tryz.func43, Tryz.ntmps43
 go_wp2_with fail
 generalize hW : World.alloc _ _ = W0
 obtain ⟨b0, b1, b2, b3, b4, hg⟩ := blk5 hW
 clear hW
 have HA : Hid (TBA w w.heap.size (w.heap.size + 1) (w.heap.size + 1 + 1) (w.heap.size + 1 + 1 + 1) (w.heap.size + 1 + 1 + 1 + 1) (w.heap.size + 1 + 1 + 1 + 1 + 1)) := hid ⟨rfl, by omega, by omega, by omega, by omega, by omega, by omega, by omega, by omega, by omega, by omega, by omega, by omega⟩
 have HT : Hid (TB w W0 w.heap.size (w.heap.size + 1) (w.heap.size + 1 + 1) (w.heap.size + 1 + 1 + 1) (w.heap.size + 1 + 1 + 1 + 1) #[.bool wide, .bool big, y2, y3, y4, y5, y6, .int .u64 (ph : Int), .int .u64 (sh : Int), y9, y10, y11, y12] P S I (.slice A n c) (.slice none 0 0) (.slice none 0 0) wide big) := hid ⟨b0, b1, b2, b3, b4, hg⟩
 clear b0 b1 b2 b3 b4 hg
 generalize w.heap.size + 1 + 1 + 1 + 1 + 1 = base at HA
 generalize w.heap.size + 1 + 1 + 1 + 1 = g4 at HA HT ⊢
 generalize w.heap.size + 1 + 1 + 1 = g3 at HA HT ⊢
 generalize w.heap.size + 1 + 1 = g2 at HA HT ⊢
 generalize w.heap.size + 1 = g1 at HA HT ⊢
 obtain ⟨g0, hg0⟩ : ∃ g, g = w.heap.size := ⟨_, rfl⟩
 rw [← hg0] at HA HT ⊢
 clear hg0
 have HO : Hid (ZO W0 base 167 8 none 0 0 (PR 0)) := hid (by rw [HR0.out.1]; exact ZO.nil)
 go_loopw [28] (fun i wr => ∃ (k : Nat) (A1 : Option Addr) (c1 : Nat), k ≤ P ∧ i = .int .i64 k ∧ TB w wr g0 g1 g2 g3 g4 #[.bool wide, .bool big, y2, y3, y4, y5, y6, .int .u64 (ph : Int), .int .u64 (sh : Int), y9, y10, y11, y12] P S I (.slice A n c) (.slice A1 k c1) (.slice none 0 0) wide big ∧ ZO wr base 167 8 A1 k c1 (PR k) ∧ Hid (∀ j, j < k → pB j = 0)) (fun i _ => P - (intOf i).toNat)
 case atStart => exact ⟨0, none, 0, by omega, rfl, HT.out, HO.out, hid fun j hj => by omega⟩
 case round =>
  obtain ⟨k, A1, c1, hk, rfl, ht, ho, HB⟩ := hrel
  have HT1 := hid ht
  have HO1 := hid ho
  clear ht ho HT HO
  by_cases hlt : k < P
  ·have HLt := hid hlt
   have HK : Hid (k ≤ 16) := hid (by have := HPl.out; omega)
   have HPA1 : Hid (pA k ≤ 65536) := hid (HPB.out k hlt)
   have HPAk := hid (HPA.out k)
   have HPGk := hid (fun W hg => HPG.out k hlt W hg)
   have HPEk := hid (HPE.out k)
   have HPck := hid (HPc.out k)
   clear hk
   go_wp2_with fail
   refine wp_region_chain [(0, true), (1, true), (2, true), (3, true), (4, false), (5, false), (6, true)] (by kernel_rfl) (by kernel_rfl) (by kernel_rfl) ?_
   have HT2 := hid (HT1.out.grow (Grow.of_drew wr))
   have HO2 := hid (HO1.out.keep (Grow.of_drew wr))
   clear HT1 HO1
   generalize wr.drew = w2 at HT2 HO2 ⊢
   have q0 : ∀ W, Grow w2 W → W.cell? ⟨g0, 7, none⟩ = some (.int .u64 (ph : Int)) := fun W hW => (HT2.out.h.grow hW).at 7
   have f0 : ∀ W, Grow w2 W → W.cell? ⟨g4, 0, none⟩ = some (.bool wide) := fun W hW => (HT2.out.f.grow hW).at 0
   have f1 : ∀ W, Grow w2 W → W.cell? ⟨g4, 1, none⟩ = some (.bool big) := fun W hW => (HT2.out.f.grow hW).at 1
   repeat ((first | (refine chain_take rfl (by rfl) ?_ (fun W hG => ?_) ?_; rotate_left; (go_simp; rfl)) | refine chain_skip rfl (by rfl) ?_); simp only [Act.put, List.setIfInBounds_toArray, List.set_cons_zero, List.set_cons_succ])
   clear q0 f0 f1
   refine chain_only rfl (by rfl) (fun K hK => ?_)
   go_simp
   refine (HPs.out _).mono ?_
   rintro e w3 ⟨rfl, hg⟩
   refine hK _ _ hg ?_
   clear hK K
   have HT3 := hid (HT2.out.grow hg)
   have HO3 := hid (HO2.out.keep hg)
   clear hg HT2 HO2
   refine chain_only rfl (by rfl) (fun K hK => ?_)
   go_simp
   refine (entry_any ph k (pSize wide) w3 (by rw [HPAk.out]; have := HPA1.out; omega) (by have := HK.out; omega) (by omega)).mono ?_
   rintro e w3x ⟨rfl, rfl⟩
   refine hK _ _ (Grow.refl _) ?_
   clear hK K
   rw [HPAk.out]
   repeat ((first | (refine chain_take rfl (by rfl) ?_ (fun W hG => ?_) ?_; rotate_left; (go_simp; rfl)) | refine chain_skip rfl (by rfl) ?_); simp only [Act.put, List.setIfInBounds_toArray, List.set_cons_zero, List.set_cons_succ])
   refine chain_done ?_
   have f0 := HT3.out.f.at 0
   have f1 := HT3.out.f.at 1
   generalize pA k = at1 at HPA1 HPGk HPEk ⊢
   go_wp2_with fail
   clear f0 f1
   refine (HPGk.out _ HT3.out.g).mono ?_
   rintro e w4 ⟨rfl, hg⟩
   have HT4 := hid (HT3.out.grow hg)
   have HO4 := hid (HO3.out.keep hg)
   clear hg HT3 HO3 HPGk
   generalize pgF k = p at HPEk HPck ⊢
   obtain ⟨ty, fl, off, va, pa, fs, ms, al⟩ := p
   unfold Pg.C at HPck
   unfold Pg.V Pg.C
   simp only [] at HPEk HPck
   go_wp2_with fail
   generalize hW : World.alloc _ _ = W5
   obtain ⟨b5, hg⟩ := blk1 hW
   clear hW
   have HB5 := hid b5
   have HT5 := hid (HT4.out.grow hg)
   have HO5 := hid (HO4.out.keep hg)
   clear b5 hg HT4 HO4
   generalize w4.heap.size = g5 at HB5 ⊢
   refine (HIn.out off fs _).mono ?_
   rintro e w5x ⟨rfl, rfl⟩
   cases hin : inB n off fs with
   | false =>
    rw [hin, if_neg (by decide)] at HPEk
    have HE : Hid (E = (5, at1)) := hid (by
     have h1 := fst_range HLt.out HB.out (by rw [HPEk.out]; omega)
     rw [HTE.out, if_pos (by rw [h1, HPEk.out]; omega), h1, HPEk.out]
     rfl)
    have z3 : IntKind.i64.wrap (at1 : Int) = (at1 : Int) := by have := HPA1.out; rw [IntKind.wrap_i64]; omega
    clear hin HB5 HO5
    go_wp2_with fail
    refine (fspot_5 _ _).mono ?_
    rintro e ws ⟨bq, rfl, hs, hg⟩
    have HSp := hid hs
    have HTs := hid (HT5.out.grow hg)
    clear hs hg
    go_wp2_with (refine wpList_store_row rfl 120 (.tmp 6) (.tmp 55) rfl g2 #[.slice none 0 0, .slice none 0 0, .slice none 0 0, .int .u64 0] rfl rfl _ _ HTs.out.z (by kernel_rfl) rfl (by simp [Value.oneCell']) ?_)
    refine tab_ret (by rfl) (by rfl) (HTs.out.z.set _) ?_
    exact ⟨_, _, _, _, _, rfl, Err.past (by rw [HE.out]; exact HSp.out.err (by decide)) HTs.out.z (fun k h => by simp at h) _, fun h0 => absurd h0 (by rw [HE.out]; simp), fun _ => ⟨rfl, rfl, rfl, rfl⟩, Grow.set HTs.out.g HA.out.w2 _⟩
   | true =>
    rw [hin, if_pos rfl] at HPEk
    clear hin
    obtain ⟨q0, q1, q2, q3, q4, q5, q6, q7⟩ := HB5.out.c8
    have t1 := HT5.out.t.at 1
    have HNu := hid (Blk.new W5 167 #[.int .u32 (ty : Int), .int .u32 (fl : Int), .int .u64 (off : Int), .int .u64 (va : Int), .int .u64 (pa : Int), .int .u64 (fs : Int), .int .u64 (ms : Int), .int .u64 (al : Int)])
    have hal := Grow.of_alloc W5 (.cells #[.int .u32 (ty : Int), .int .u32 (fl : Int), .int .u64 (off : Int), .int .u64 (va : Int), .int .u64 (pa : Int), .int .u64 (fs : Int), .int .u64 (ms : Int), .int .u64 (al : Int)] 167)
    have HOa := hid (HO5.out.keep hal)
    have HTa := hid (HT5.out.grow hal)
    have HBs := hid (HTa.out.base_le HA.out)
    clear hal
    go_wp2_with (at_builtin; refine wpList_appendZ (W5.alloc (.cells #[.int .u32 (ty : Int), .int .u32 (fl : Int), .int .u64 (off : Int), .int .u64 (va : Int), .int .u64 (pa : Int), .int .u64 (fs : Int), .int .u64 (ms : Int), .int .u64 (al : Int)] 167)) rfl (.tmp 60) (.tmp 62) 117 rfl base 167 pg0.V 8 56 Tryz.underlying117 (by kernel_rfl) rfl (by omega) A1 k c1 _ rfl HOa.out W5.heap.size _ _ rfl HNu.out rfl (by simp [Value.oneCell']) (by have := HK.out; unfold maxLen; omega) (by have := HK.out; omega) HBs.out ?_; intro A5 c5 w9 ho9 hg9 _; refine Hid.out ?_)
    clear q0 q1 q2 q3 q4 q5 q6 q7 t1
    have HT9 := hid (HTa.out.by HA.out hg9 (fun k e => HOa.out.ge e))
    rw [← HPck.out] at ho9
    have HO9 := hid ho9
    clear ho9 hg9 HTa HOa HBs HNu HT5 HO5 HB5
    refine hid ?_
    have c9 := HT9.out.t.at 1
    have s9 := HT9.out.t.soft 1
    have e9 := setCell_eq_setRow w9 g3 1 _ 120 (0, 0) (.slice A5 (k + 1) c5) HT9.out.t
    have hk16 := HK.out
    have HTb := hid (HT9.out.set HA.out (.slice A5 (k + 1) c5) (.slice none 0 0))
    have HOb := hid (HO9.out.other (HO9.out.notb HA.out.a3) #[.slice A n c, .slice A5 (k + 1) c5, .slice none 0 0, .int .u64 (I : Int)])
    go_wp2
    go_roundw
    case rel =>
     exact ⟨k + 1, A5, c5, HLt.out, by go_num, HTb.out, HOb.out, hid fun j hj => by
      rcases Nat.lt_or_ge j k with h | h
      ·exact HB.out j h
      ·rw [show j = k by omega, HPEk.out]⟩
    case measure => simp [intOf]; have := HLt.out; have := HK.out; omega
  ·obtain rfl : P = k := by omega
   have HF1 : Hid (fstC pB (List.range P) = 0) := hid (fst_none HB.out)
   have HTE2 : Hid (E = if fstC sB (List.range (S - 1)) ≠ 0 then (5, fstC sB (List.range (S - 1)) - 1) else (0, 0)) := hid (by rw [HTE.out, if_neg (by rw [HF1.out]; simp)])
   have HOs : Hid (ZO wr base 172 10 none 0 0 (SR 0)) := hid (by rw [HR0.out.2]; exact ZO.nil)
   clear HF1 HTE HB HPG HPB HPA HPE HPs HPc
   generalize wr = wz at HT1 HO1 HOs ⊢
   go_wp2_with fail
   have HTw := hid HT1.out
   go_loopw [14] (fun i wr => ∃ (j k : Nat) (A2 : Option Addr) (c2 : Nat), Hid (j = k + 1) ∧ k ≤ S - 1 ∧ i = .int .i64 j ∧ TB w wr g0 g1 g2 g3 g4 #[.bool wide, .bool big, y2, y3, y4, y5, y6, .int .u64 (ph : Int), .int .u64 (sh : Int), y9, y10, y11, y12] P S I (.slice A n c) (.slice A1 P c1) (.slice A2 k c2) wide big ∧ ZO wr base 167 8 A1 P c1 (PR P) ∧ ZO wr base 172 10 A2 k c2 (SR k) ∧ Hid (∀ q, q < k → sB q = 0)) (fun i _ => S + 1 - (intOf i).toNat)
   case atStart => exact ⟨1, 0, none, 0, hid rfl, by omega, rfl, HT1.out, HO1.out, HOs.out, hid fun q hq => by omega⟩
   case round =>
    obtain ⟨j, k, A2, c2, HJ, hk, rfl, ht, hq, ho, HB⟩ := hrel
    have HT1 := hid ht
    have HQ1 := hid hq
    have HO1 := hid ho
    clear ht hq ho HOs HTw
    have n1 := HT1.out.n.at 1
    by_cases hlt : j < S
    ·have HLt : Hid (k < S - 1) := hid (by have := HJ.out; omega)
     have HK : Hid (j ≤ 65 ∧ k ≤ 64) := hid (by have := HSl.out; have := HJ.out; omega)
     have HPA1 : Hid (sA j ≤ 65536) := hid (HSB.out j hlt)
     have HPAk := hid (HSA.out j)
     have HPGk := hid (fun W hg => HSG.out j hlt W hg)
     have HPEk := hid (HSE.out k)
     have HPck := hid (HSc.out k)
     have HJs : Hid (j < S) := hid hlt
     rw [← HJ.out] at HPEk HPck
     have d1 : decide ((j : Int) < (S : Int)) = true := decide_eq_true (by omega)
     have d2 : decide (j < S) = true := decide_eq_true hlt
     clear hk hlt
     go_wp2_with fail
     clear d1 d2 n1
     refine wp_region_chain [(0, true), (1, true), (2, true), (3, true), (4, false), (5, false), (6, true)] (by kernel_rfl) (by kernel_rfl) (by kernel_rfl) ?_
     have HT2 := hid (HT1.out.grow (Grow.of_drew wr))
     have HO2 := hid (HO1.out.keep (Grow.of_drew wr))
     have HQ2 := hid (HQ1.out.keep (Grow.of_drew wr))
     clear HT1 HO1 HQ1
     generalize wr.drew = w2 at HT2 HO2 HQ2 ⊢
     have q0 : ∀ W, Grow w2 W → W.cell? ⟨g0, 8, none⟩ = some (.int .u64 (sh : Int)) := fun W hW => (HT2.out.h.grow hW).at 8
     have f0 : ∀ W, Grow w2 W → W.cell? ⟨g4, 0, none⟩ = some (.bool wide) := fun W hW => (HT2.out.f.grow hW).at 0
     have f1 : ∀ W, Grow w2 W → W.cell? ⟨g4, 1, none⟩ = some (.bool big) := fun W hW => (HT2.out.f.grow hW).at 1
     repeat ((first | (refine chain_take rfl (by rfl) ?_ (fun W hG => ?_) ?_; rotate_left; (go_simp; rfl)) | refine chain_skip rfl (by rfl) ?_); simp only [Act.put, List.setIfInBounds_toArray, List.set_cons_zero, List.set_cons_succ])
     clear q0 f0 f1
     refine chain_only rfl (by rfl) (fun K hK => ?_)
     go_simp
     refine (HSs.out _).mono ?_
     rintro e w3 ⟨rfl, hg⟩
     refine hK _ _ hg ?_
     clear hK K
     have HT3 := hid (HT2.out.grow hg)
     have HO3 := hid (HO2.out.keep hg)
     have HQ3 := hid (HQ2.out.keep hg)
     clear hg HT2 HO2 HQ2
     refine chain_only rfl (by rfl) (fun K hK => ?_)
     go_simp
     refine (entry_any sh j (sSize wide) w3 (by rw [HPAk.out]; have := HPA1.out; omega) (by have := HK.out.1; omega) (by omega)).mono ?_
     rintro e w3x ⟨rfl, rfl⟩
     refine hK _ _ (Grow.refl _) ?_
     clear hK K
     rw [HPAk.out]
     repeat ((first | (refine chain_take rfl (by rfl) ?_ (fun W hG => ?_) ?_; rotate_left; (go_simp; rfl)) | refine chain_skip rfl (by rfl) ?_); simp only [Act.put, List.setIfInBounds_toArray, List.set_cons_zero, List.set_cons_succ])
     refine chain_done ?_
     have f0 := HT3.out.f.at 0
     have f1 := HT3.out.f.at 1
     generalize sA j = at1 at HPA1 HPGk HPEk ⊢
     go_wp2_with fail
     clear f0 f1
     refine (HPGk.out _ HT3.out.g).mono ?_
     rintro e w4 ⟨rfl, hg⟩
     have HT4 := hid (HT3.out.grow hg)
     have HO4 := hid (HO3.out.keep hg)
     have HQ4 := hid (HQ3.out.keep hg)
     clear hg HT3 HO3 HQ3 HPGk
     generalize scF j = p at HPEk HPck ⊢
     obtain ⟨na, ty, fl, ad, off, sz, li, inf, al, en⟩ := p
     unfold Sc.C at HPck
     unfold Sc.V Sc.C
     unfold Sc.held at HPEk
     simp only [] at HPEk HPck
     go_wp2_with fail
     generalize hW : World.alloc _ _ = W5
     obtain ⟨b5, hg⟩ := blk1 hW
     clear hW
     have HB5 := hid b5
     have HT5 := hid (HT4.out.grow hg)
     have HO5 := hid (HO4.out.keep hg)
     have HQ5 := hid (HQ4.out.keep hg)
     clear b5 hg HT4 HO4 HQ4
     generalize w4.heap.size = g5 at HB5 ⊢
     refine (hasNo_any ty _).mono ?_
     rintro e w5x ⟨rfl, rfl⟩
     cases hba : bare ty with
     | true =>
      have HPEz : Hid (sB k = 0) := hid (by
       unfold bare at hba
       simp at hba
       rw [HPEk.out, if_pos hba, if_pos (by unfold inB; simp)])
      clear hba
      have HBk : Hid (sB k = 0) := hid HPEz.out
      clear HPEz HPEk
      obtain ⟨q0, q1, q2, q3, q4, q5, q6, q7, q8, q9⟩ := HB5.out.c10
      have t1 := HT5.out.t.at 2
      have HNu := hid (Blk.new W5 172 #[.int .u32 (na : Int), .int .u32 (ty : Int), .int .u64 (fl : Int), .int .u64 (ad : Int), .int .u64 (off : Int), .int .u64 (sz : Int), .int .u32 (li : Int), .int .u32 (inf : Int), .int .u64 (al : Int), .int .u64 (en : Int)])
      have hal := Grow.of_alloc W5 (.cells #[.int .u32 (na : Int), .int .u32 (ty : Int), .int .u64 (fl : Int), .int .u64 (ad : Int), .int .u64 (off : Int), .int .u64 (sz : Int), .int .u32 (li : Int), .int .u32 (inf : Int), .int .u64 (al : Int), .int .u64 (en : Int)] 172)
      have HOa := hid (HO5.out.keep hal)
      have HQa := hid (HQ5.out.keep hal)
      have HTa := hid (HT5.out.grow hal)
      have HBs := hid (HTa.out.base_le HA.out)
      clear hal
      go_wp2_with (at_builtin; refine wpList_appendZ (W5.alloc (.cells #[.int .u32 (na : Int), .int .u32 (ty : Int), .int .u64 (fl : Int), .int .u64 (ad : Int), .int .u64 (off : Int), .int .u64 (sz : Int), .int .u32 (li : Int), .int .u32 (inf : Int), .int .u64 (al : Int), .int .u64 (en : Int)] 172)) rfl (.tmp 108) (.tmp 110) 118 rfl base 172 sc0.V 10 64 Tryz.underlying118 (by kernel_rfl) rfl (by omega) A2 k c2 _ rfl HOa.out W5.heap.size _ _ rfl HNu.out rfl (by simp [Value.oneCell']) (by have := HK.out.2; unfold maxLen; omega) (by have := HK.out.2; omega) HBs.out ?_; intro A5 c5 w9 ho9 hg9 _; refine Hid.out ?_)
      clear q0 q1 q2 q3 q4 q5 q6 q7 q8 q9 t1
      have HT9 := hid (HTa.out.by HA.out hg9 (fun k e => HOa.out.ge e))
      have HQ9 := hid (HQa.out.past hg9 (HQa.out.kinds HOa.out (by decide)))
      rw [HJ.out] at HPck
      rw [← HPck.out] at ho9
      have HO9 := hid ho9
      clear ho9 hg9 HTa HOa HQa HBs HNu HT5 HO5 HQ5 HB5
      refine hid ?_
      have c9 := HT9.out.t.at 2
      have s9 := HT9.out.t.soft 2
      have e9 := setCell_eq_setRow w9 g3 2 _ 120 (0, 0) (.slice A5 (k + 1) c5) HT9.out.t
      have HTb := hid (HT9.out.set HA.out (.slice A1 P c1) (.slice A5 (k + 1) c5))
      have HOb := hid (HO9.out.other (HO9.out.notb HA.out.a3) #[.slice A n c, .slice A1 P c1, .slice A5 (k + 1) c5, .int .u64 (I : Int)])
      have HQb := hid (HQ9.out.other (HQ9.out.notb HA.out.a3) #[.slice A n c, .slice A1 P c1, .slice A5 (k + 1) c5, .int .u64 (I : Int)])
      have z4 : IntKind.i64.wrap ((j : Int) + 1) = (j : Int) + 1 := by have := HK.out.1; rw [IntKind.wrap_i64]; omega
      go_wp2
      go_roundw
      case rel =>
       exact ⟨j + 1, k + 1, A5, c5, hid (by have := HJ.out; omega), by have := HLt.out; omega, by go_num, HTb.out, HQb.out, HOb.out, hid fun q hq => by
        rcases Nat.lt_or_ge q k with h | h
        ·exact HB.out q h
        ·rw [show q = k by omega, HBk.out]⟩
      case measure => simp [intOf]; have := HJs.out; have := HK.out; omega
     | false =>
      have hty : ¬ (ty = 0 ∨ ty = 8) := by unfold bare at hba; simpa using hba
      rw [if_neg hty] at HPEk
      clear hba hty
      have q4 := HB5.out.at 4
      have q5 := HB5.out.at 5
      go_wp2_with fail
      clear q4 q5
      refine (HIn.out off sz _).mono ?_
      rintro e w5x ⟨rfl, rfl⟩
      cases hin : inB n off sz with
      | false =>
       rw [hin, if_neg (by decide)] at HPEk
       have HE : Hid (E = (5, at1)) := hid (by
        have h1 := fst_range HLt.out HB.out (by rw [HPEk.out]; omega)
        rw [HTE2.out, if_pos (by rw [h1, HPEk.out]; omega), h1, HPEk.out]
        rfl)
       have z3 : IntKind.i64.wrap (at1 : Int) = (at1 : Int) := by have := HPA1.out; rw [IntKind.wrap_i64]; omega
       clear hin HB5 HO5 HQ5
       go_wp2_with fail
       refine (fspot_5 _ _).mono ?_
       rintro e ws ⟨bq, rfl, hs, hg⟩
       have HSp := hid hs
       have HTs := hid (HT5.out.grow hg)
       clear hs hg
       go_wp2_with (refine wpList_store_row rfl 120 (.tmp 6) (.tmp 103) rfl g2 #[.slice none 0 0, .slice none 0 0, .slice none 0 0, .int .u64 0] rfl rfl _ _ HTs.out.z (by kernel_rfl) rfl (by simp [Value.oneCell']) ?_)
       refine tab_ret (by rfl) (by rfl) (HTs.out.z.set _) ?_
       exact ⟨_, _, _, _, _, rfl, Err.past (by rw [HE.out]; exact HSp.out.err (by decide)) HTs.out.z (fun k h => by simp at h) _, fun h0 => absurd h0 (by rw [HE.out]; simp), fun _ => ⟨rfl, rfl, rfl, rfl⟩, Grow.set HTs.out.g HA.out.w2 _⟩
      | true =>
       rw [hin, if_pos rfl] at HPEk
       clear hin
       have HPEz : Hid (sB k = 0) := hid HPEk.out
       have HBk : Hid (sB k = 0) := hid HPEz.out
       clear HPEz HPEk
       obtain ⟨q0, q1, q2, q3, q4, q5, q6, q7, q8, q9⟩ := HB5.out.c10
       have t1 := HT5.out.t.at 2
       have HNu := hid (Blk.new W5 172 #[.int .u32 (na : Int), .int .u32 (ty : Int), .int .u64 (fl : Int), .int .u64 (ad : Int), .int .u64 (off : Int), .int .u64 (sz : Int), .int .u32 (li : Int), .int .u32 (inf : Int), .int .u64 (al : Int), .int .u64 (en : Int)])
       have hal := Grow.of_alloc W5 (.cells #[.int .u32 (na : Int), .int .u32 (ty : Int), .int .u64 (fl : Int), .int .u64 (ad : Int), .int .u64 (off : Int), .int .u64 (sz : Int), .int .u32 (li : Int), .int .u32 (inf : Int), .int .u64 (al : Int), .int .u64 (en : Int)] 172)
       have HOa := hid (HO5.out.keep hal)
       have HQa := hid (HQ5.out.keep hal)
       have HTa := hid (HT5.out.grow hal)
       have HBs := hid (HTa.out.base_le HA.out)
       clear hal
       go_wp2_with (at_builtin; refine wpList_appendZ (W5.alloc (.cells #[.int .u32 (na : Int), .int .u32 (ty : Int), .int .u64 (fl : Int), .int .u64 (ad : Int), .int .u64 (off : Int), .int .u64 (sz : Int), .int .u32 (li : Int), .int .u32 (inf : Int), .int .u64 (al : Int), .int .u64 (en : Int)] 172)) rfl (.tmp 108) (.tmp 110) 118 rfl base 172 sc0.V 10 64 Tryz.underlying118 (by kernel_rfl) rfl (by omega) A2 k c2 _ rfl HOa.out W5.heap.size _ _ rfl HNu.out rfl (by simp [Value.oneCell']) (by have := HK.out.2; unfold maxLen; omega) (by have := HK.out.2; omega) HBs.out ?_; intro A5 c5 w9 ho9 hg9 _; refine Hid.out ?_)
       clear q0 q1 q2 q3 q4 q5 q6 q7 q8 q9 t1
       have HT9 := hid (HTa.out.by HA.out hg9 (fun k e => HOa.out.ge e))
       have HQ9 := hid (HQa.out.past hg9 (HQa.out.kinds HOa.out (by decide)))
       rw [HJ.out] at HPck
       rw [← HPck.out] at ho9
       have HO9 := hid ho9
       clear ho9 hg9 HTa HOa HQa HBs HNu HT5 HO5 HQ5 HB5
       refine hid ?_
       have c9 := HT9.out.t.at 2
       have s9 := HT9.out.t.soft 2
       have e9 := setCell_eq_setRow w9 g3 2 _ 120 (0, 0) (.slice A5 (k + 1) c5) HT9.out.t
       have HTb := hid (HT9.out.set HA.out (.slice A1 P c1) (.slice A5 (k + 1) c5))
       have HOb := hid (HO9.out.other (HO9.out.notb HA.out.a3) #[.slice A n c, .slice A1 P c1, .slice A5 (k + 1) c5, .int .u64 (I : Int)])
       have HQb := hid (HQ9.out.other (HQ9.out.notb HA.out.a3) #[.slice A n c, .slice A1 P c1, .slice A5 (k + 1) c5, .int .u64 (I : Int)])
       have z4 : IntKind.i64.wrap ((j : Int) + 1) = (j : Int) + 1 := by have := HK.out.1; rw [IntKind.wrap_i64]; omega
       go_wp2
       go_roundw
       case rel =>
        exact ⟨j + 1, k + 1, A5, c5, hid (by have := HJ.out; omega), by have := HLt.out; omega, by go_num, HTb.out, HQb.out, HOb.out, hid fun q hq => by
         rcases Nat.lt_or_ge q k with h | h
         ·exact HB.out q h
         ·rw [show q = k by omega, HBk.out]⟩
       case measure => simp [intOf]; have := HJs.out; have := HK.out; omega
    ·have hk2 : k = S - 1 := by have := HJ.out; omega
     have HE : Hid (E = (0, 0)) := hid (by rw [HTE2.out, if_neg (by rw [← hk2, fst_none HB.out]; simp)])
     have HK2 := hid hk2
     have d1 : decide ((j : Int) < (S : Int)) = false := decide_eq_false (by omega)
     have d2 : decide (j < S) = false := decide_eq_false hlt
     clear hk hlt hk2
     obtain ⟨t0, t1, t2, t3⟩ := HT1.out.t.c4
     go_wp2_with (refine wpList_store_row rfl 120 (.tmp 6) (.tmp 113) rfl g2 #[.slice A n c, .slice A1 P c1, .slice A2 k c2, .int .u64 (I : Int)] rfl rfl _ _ HT1.out.z (by kernel_rfl) rfl (by simp [Value.oneCell']) ?_)
     refine tab_ret (by rfl) (by rfl) (HT1.out.z.set _) ?_
     have HZ1 := (HQ1.out.other (HQ1.out.notb HA.out.a2) #[.slice A n c, .slice A1 P c1, .slice A2 k c2, .int .u64 (I : Int)]).zs
     have HZ2 := (HO1.out.other (HO1.out.notb HA.out.a2) #[.slice A n c, .slice A1 P c1, .slice A2 k c2, .int .u64 (I : Int)]).zs
     refine ⟨_, _, _, _, _, rfl, by rw [HE.out]; exact .inl ⟨rfl, rfl, rfl⟩, fun _ => ?_, fun h => absurd (by rw [HE.out]) h, Grow.set HT1.out.g HA.out.w2 _⟩
     rw [← HK2.out]
     exact ⟨A1, c1, A2, c2, rfl, HZ1, HZ2⟩
set_option maxRecDepth 100000
set_option linter.unusedVariables false
def PlaceR (p : Pl) (w : World) (e : Ending) (w' : World) : Prop := ∃ A n c, e = .returned (.agg (plC p (.slice A n c))) ∧ OB w' w.heap.size 5 A n c p.own ∧ Grow w w'
set_option maxHeartbeats 1000000 in
theorem segOf_any (p : Pg) (q : Pl) (A : Option Addr) (n c : Nat) (w : World) :
  Calls Tryz.prog 97 #[p.V, .agg (plC q (.slice A n c))] w fun e w' => e = .returned (.agg (sgC ⟨p.ty, p.fl, p.va, p.pa, p.ms, p.al, q⟩ (.slice A n c))) ∧ Grow w w' := by
 obtain ⟨ty, fl, off, va, pa, fs, ms, al⟩ := p
 obtain ⟨i, o, z, b⟩ := q
 unfold Pg.V Pg.C plC sgC
 simp only []
 go_enter Tryz.func97, Tryz.ntmps97
 go_wp2_with (refine wpList_store_row rfl 70 (.tmp 4) (.tmp 18) rfl (w.heap.size + 1 + 1) #[.int .u32 (ty : Int), .int .u32 (fl : Int), .int .u64 (va : Int), .int .u64 (pa : Int), .int .u64 (ms : Int), .int .u64 (al : Int), .int .i64 i, .int .u64 (o : Int), .int .u64 (z : Int), .slice A n c] rfl rfl _ _ (blk3 rfl).2.2.1 (by kernel_rfl) rfl (by simp [Value.oneCell']) ?_)
 refine bodyPost_ret (results_cell_row rfl _ _ (w.heap.size + 1 + 1) _ _ (0, 0) _ rfl ((blk3 rfl).2.2.1.set _) Tryz.underlying70 rfl (by kernel_rfl)) rfl ?_
 exact ⟨rfl, Grow.set (blk3 rfl).2.2.2 (by omega) _⟩
set_option maxHeartbeats 1000000 in
theorem secOf_any (p : Sc) (q : Pl) (A : Option Addr) (n c : Nat) (w : World) :
  Calls Tryz.prog 99 #[p.V, .agg (plC q (.slice A n c))] w fun e w' => e = .returned (.agg (seC ⟨p.na, p.ty, p.fl, p.ad, p.sz, p.li, p.inf, p.al, p.en, q⟩ (.slice A n c))) ∧ Grow w w' := by
 obtain ⟨na, ty, fl, ad, off, sz, li, inf, al, en⟩ := p
 obtain ⟨i, o, z, b⟩ := q
 unfold Sc.V Sc.C plC seC
 simp only []
 go_enter Tryz.func99, Tryz.ntmps99
 go_wp2_with (refine wpList_store_row rfl 57 (.tmp 4) (.tmp 24) rfl (w.heap.size + 1 + 1) #[.int .u32 (na : Int), .int .u32 (ty : Int), .int .u64 (fl : Int), .int .u64 (ad : Int), .int .u64 (sz : Int), .int .u32 (li : Int), .int .u32 (inf : Int), .int .u64 (al : Int), .int .u64 (en : Int), .int .i64 i, .int .u64 (o : Int), .int .u64 (z : Int), .slice A n c] rfl rfl _ _ (blk3 rfl).2.2.1 (by kernel_rfl) rfl (by simp [Value.oneCell']) ?_)
 refine bodyPost_ret (results_cell_row rfl _ _ (w.heap.size + 1 + 1) _ _ (0, 0) _ rfl ((blk3 rfl).2.2.1.set _) Tryz.underlying57 rfl (by kernel_rfl)) rfl ?_
 exact ⟨rfl, Grow.set (blk3 rfl).2.2.2 (by omega) _⟩
set_option maxHeartbeats 1000000 in
theorem ownPlace_any (l : List UInt8) (A : Option Addr) (n c : Nat) (T1 T2 T3 : Value) (off size : Nat) (w : World) (hr : RB w w.heap.size A n c l) (hin : inB n off size = true) (hlen : n ≤ 65536) :
  Calls Tryz.prog 135 #[.agg #[.slice A n c, T1, T2, T3], .int .u64 (off : Int), .int .u64 (size : Int)] w (PlaceR (ownPl l off size) w) := by
 by_cases h0 : size = 0
 ·have E : Hid (ownPl l off size = ⟨-1, 0, 0, []⟩) := hid (by unfold ownPl; rw [if_pos h0])
  have d : ((size : Int) == 0) = true := by simp [h0]
  rw [E.out]
  clear h0 hr hin E
  unfold PlaceR plC
  go_enter Tryz.func135, Tryz.ntmps135
  go_wp2
  refine bodyPost_ret (results_cell_row rfl _ _ (w.heap.size + 1) _ _ (0, 0) _ rfl (blk2 rfl).2.1 Tryz.underlying55 rfl (by kernel_rfl)) rfl ?_
  exact ⟨none, 0, 0, rfl, OB.nil, (blk2 rfl).2.2⟩
 ·have hle := inB_le hin h0
  have E : Hid (ownPl l off size = ⟨-1, 0, size, (l.drop off).take size⟩) := hid (by unfold ownPl; rw [if_neg h0])
  have d : ((size : Int) == 0) = false := by simp [h0]
  rw [E.out]
  obtain ⟨b, o, rfl, hb, _⟩ := hr.pos (by omega)
  have hc := hr.cap
  have hcut : ∀ W : World, (Instr.slice 29 (.slice (some ⟨b, o, none⟩) n c) (some (.int .u64 (off : Int))) (some (.int .u64 ((off : Int) + (size : Int)))) none).run Tryz.prog W = .ok (.slice (some (cutA ⟨b, o, none⟩ c off)) size (c - off)) W := fun W => by
   have := run_cut_lh (P := Tryz.prog) 29 Tryz.underlying29 (fun W => by kernel_rfl) ⟨b, o, none⟩ n c .u64 .u64 off (off + size) (by omega) (by omega) W
   rw [show off + size - off = size by omega] at this
   rw [Int.natCast_add] at this
   exact this
  have HC := hid (fun W (hg : Grow w W) => clone_any (some (cutA ⟨b, o, none⟩ c off)) size (c - off) ((l.drop off).take size) w.heap.size W ((hr.cut hle).belowAt hg (Nat.le_refl _)) hg.size (by omega))
  have z1 : IntKind.u64.wrap ((off : Int) + (size : Int)) = (off : Int) + (size : Int) := by rw [IntKind.wrap_u64]; omega
  have HL : Hid (((l.drop off).take size).length = size) := hid (by rw [List.length_take, List.length_drop]; have := hr.len; omega)
  generalize (l.drop off).take size = bs at HC HL ⊢
  generalize cutA ⟨b, o, none⟩ c off = a at hcut HC
  clear h0 hin hlen hle hr E hc hb
  unfold PlaceR plC
  unfold NewB at HC
  rw [HL.out] at HC
  go_enter Tryz.func135, Tryz.ntmps135
  go_wp2_with fail
  clear hcut z1 d
  generalize hW : World.alloc _ _ = W0
  obtain ⟨b1, b2, hg⟩ := blk2 hW
  clear hW b1
  refine (HC.out _ hg).mono ?_
  rintro e w1 ⟨A2, c2, rfl, ho, hg2⟩
  have HO : Hid (OB w1 w.heap.size 5 A2 size c2 bs) := hid (ho.mono hg.size)
  have HB := hid (b2.grow hg2)
  have HG : Hid (Grow w w1) := hid (hg.trans hg2)
  have HS : Hid (own A2 ≠ some (w.heap.size + 1)) := hid fun e => by
   have h1 := b2.lt
   have h2 := (ho.from_ e).1
   omega
  clear ho b2 hg hg2
  have HGe : Hid (w.heap.size ≤ w.heap.size + 1) := hid (by omega)
  generalize w.heap.size + 1 = g at HB HS HGe ⊢
  go_wp2_with (refine wpList_store_row rfl 55 (.tmp 6) (.tmp 19) rfl g #[.int .i64 (-1), .int .u64 0, .int .u64 (size : Int), .slice A2 size c2] rfl rfl _ _ HB.out (by kernel_rfl) rfl (by simp [Value.oneCell']) ?_)
  refine bodyPost_ret (results_cell_row rfl _ _ g _ _ (0, 0) _ rfl (HB.out.set _) Tryz.underlying55 rfl (by kernel_rfl)) rfl ?_
  exact ⟨A2, size, c2, rfl, HO.out.beside HS.out _, Grow.set HG.out HGe.out _⟩
end Go.Proofs.YtfbimboemahhhaaGreatDoor
