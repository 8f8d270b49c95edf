/-
  Several texts in one: The contract of model; The contract of model; The contract of model.
-/
import Derived.Test.YtfbimboemahhhaaSbG4
import Derived.Test.YtfbimboemahhhaaSbG7
import Derived.Test.YtfbimboemahhhaaSbG1
namespace Go.Proofs.Ytfbimboemahhhaa
open Go.Lib (hid)
open Go.RowKit
theorem e_ret {a b : Nat} {w w' : World} (h : b = a) (v : Value) (hv : v = eC a) (hg : Grow w w') : Ending.returned v = .returned (eC b) ∧ Grow w w' := ⟨by rw [h, hv], hg⟩
set_option maxHeartbeats 2000000 in
theorem mSeg_any (m : Md) (A1 A2 : Option Addr) (n1 c1 n2 c2 : Nat) (s : Sg) (ok : s.Ok) (A : Option Addr) (n c : Nat) (w : World) (g1 : ZR sgK w w.heap.size A1 n1 c1 m.segs) (g : RB w w.heap.size A n c s.pl.own) :
  Calls Try.prog 55 #[.agg (mdC m (.slice A1 n1 c1) (.slice A2 n2 c2)), .agg (sgC s (.slice A n c))] w fun e w' => e = .returned (eC (m.segC s)) ∧ Grow w w' := by
 have HO := hid (fun w => ones_any s.align w ok.align)
 have HM := hid (fun w' (hg : Grow w w') => mMay_any m A1 A2 n1 c1 n2 c2 s.pl A n c w' (g1.grow hg) (g.grow hg))
 have HW := hid (fun w => mWraps_any s ok (.slice A n c) m.wide m.big w)
 have HL := hid (ones_le s.align)
 have E := hid (show m.segC s = if 1 < ones s.align then 6 else if m.may s.pl = false then 1 else if s.typ ≠ 1 then 0 else if s.pl.inn ≠ -1 then 1 else if s.memsz < s.pl.size then 5 else if s.wraps m.wide = true then 12 else 0 from rfl)
 unfold mdC at HM ⊢
 unfold sgC at HW ⊢
 unfold plC at HM
 clear g1 g ok
 generalize m.segC s = C at E ⊢
 generalize ones s.align = on at HO HL E
 generalize m.may s.pl = my at HM E
 generalize s.wraps m.wide = wr at HW E
 generalize m.wide = x0 at HM HW ⊢
 generalize m.big = x1 at HM HW ⊢
 generalize m.osabi = x2 at HM ⊢
 generalize m.abi = x3 at HM ⊢
 generalize m.typ = x4 at HM ⊢
 generalize m.mach = x5 at HM ⊢
 generalize m.flags = x6 at HM ⊢
 generalize m.entry = x7 at HM ⊢
 generalize m.str = x10 at HM ⊢
 generalize s.pl.inn = pi at HM HW E ⊢
 generalize s.pl.off = po at HM HW ⊢
 generalize s.pl.size = ps at HM HW E ⊢
 generalize s.typ = ty at HW E ⊢
 generalize s.flags = z1 at HW ⊢
 generalize s.vaddr = z2 at HW ⊢
 generalize s.paddr = z3 at HW ⊢
 generalize s.memsz = z4 at HW E ⊢
 generalize s.align = z5 at HO HW ⊢
 go_enter Try.func55, Try.ntmps55
 go_wp2_with fail
 generalize hW : World.alloc _ _ = W0
 obtain ⟨b1, b2, hg0⟩ := blk2 hW
 clear hW
 have HB1 := hid b1
 have HB2 := hid b2
 have HG0 := hid hg0
 obtain ⟨y0, y1, y2, y3, y4, y5, y6, y7, y8, y9⟩ := b2.c10
 clear b1 b2 hg0
 go_wp2_with fail
 clear y0 y1 y2 y3 y4 y5 y6 y7 y8 y9
 refine (HO.out _).mono ?_
 rintro e w' ⟨rfl, rfl⟩
 by_cases h1 : 1 < on
 ·have E2 := hid (show C = 6 by rw [E.out, if_pos h1])
  have d : decide (1 < on) = true := decide_eq_true h1
  have d' : decide ((1 : Int) < (on : Int)) = true := decide_eq_true (by omega)
  clear h1
  go_wp2
  go_ret
  exact e_ret E2.out _ rfl HG0.out
 rw [if_neg h1] at E
 have d : decide (1 < on) = false := decide_eq_false h1
 have d' : decide ((1 : Int) < (on : Int)) = false := decide_eq_false (by omega)
 clear h1
 obtain ⟨y0, y1, y2, y3, y4, y5, y6, y7, y8, y9⟩ := HB2.out.c10
 obtain ⟨v0, v1, v2, v3, v4, v5, v6, v7, v8, v9, v10⟩ := HB1.out.c11
 go_wp2_with fail
 clear y0 y1 y2 y3 y4 y5 y6 y7 y8 y9 v0 v1 v2 v3 v4 v5 v6 v7 v8 v9 v10 d d'
 refine (HM.out _ HG0.out).mono ?_
 rintro e w1 ⟨rfl, hg1⟩
 have HB3 := hid (HB1.out.grow hg1)
 have HB4 := hid (HB2.out.grow hg1)
 have HG1 : Hid (Grow w w1) := HG0.out.trans hg1
 clear hg1 HB1 HB2 HG0 HM
 cases my with
 | false =>
  have E2 := hid (show C = 1 by rw [E.out, if_pos rfl])
  go_wp2
  go_ret
  exact e_ret E2.out _ rfl HG1.out
 | true =>
 rw [if_neg (by decide)] at E
 obtain ⟨y0, y1, y2, y3, y4, y5, y6, y7, y8, y9⟩ := HB4.out.c10
 by_cases h2 : ty ≠ 1
 ·have E2 := hid (show C = 0 by rw [E.out, if_pos h2])
  have d : ((ty : Int) != 1) = true := by simp; omega
  clear h2
  go_wp2
  go_ret
  exact e_ret E2.out _ rfl HG1.out
 rw [if_neg h2] at E
 have d : ((ty : Int) != 1) = false := by simp; omega
 by_cases h3 : pi ≠ -1
 ·have E2 := hid (show C = 1 by rw [E.out, if_pos h3])
  have d3 : (pi != -1) = true := by simpa using h3
  clear h2 h3
  go_wp2
  go_ret
  exact e_ret E2.out _ rfl HG1.out
 rw [if_neg h3] at E
 have d3 : (pi != -1) = false := by simpa using h3
 by_cases h4 : z4 < ps
 ·have E2 := hid (show C = 5 by rw [E.out, if_pos h4])
  have d4 : decide (z4 < ps) = true := decide_eq_true h4
  clear h2 h3 h4
  go_wp2
  go_ret
  exact e_ret E2.out _ rfl HG1.out
 rw [if_neg h4] at E
 have d4 : decide (z4 < ps) = false := decide_eq_false h4
 obtain ⟨v0, v1, v2, v3, v4, v5, v6, v7, v8, v9, v10⟩ := HB3.out.c11
 clear h2 h3 h4
 go_wp2_with fail
 clear y0 y1 y2 y3 y4 y5 y6 y7 y8 y9 v0 v1 v2 v3 v4 v5 v6 v7 v8 v9 v10 d d3 d4
 refine (HW.out _).mono ?_
 rintro e w2 ⟨rfl, hg2⟩
 have HG2 : Hid (Grow w w2) := HG1.out.trans hg2
 clear hg2
 cases wr with
 | false =>
  have E2 := hid (show C = 0 by rw [E.out, if_neg (by decide)])
  go_wp2
  go_ret
  exact e_ret E2.out _ rfl HG2.out
 | true =>
  have E2 := hid (show C = 12 by rw [E.out, if_pos rfl])
  go_wp2
  go_ret
  exact e_ret E2.out _ rfl HG2.out
theorem loads_le (l : List Sg) : (loads l).length ≤ l.length := by
 induction l with
 | nil => simp [loads]
 | cons a r ih =>
  have : loads (a :: r) = loadOf a ++ loads r := by simp [loads]
  rw [this, List.length_append, List.length_cons]
  have : (loadOf a).length ≤ 1 := by unfold loadOf; split <;> simp
  omega
theorem loads_lt {l : List Sg} (ok : ∀ s ∈ l, s.Ok) : ∀ x ∈ loads l, x.1 < 18446744073709551616 ∧ x.2 < 18446744073709551616 := fun x hx => by
 obtain ⟨s, hs, _, rfl⟩ := mem_loads hx
 exact ⟨(ok s hs).vaddr, (ok s hs).memsz⟩
set_option maxRecDepth 100000 in
set_option maxHeartbeats 2000000 in
theorem mSegs_any (m : Md) (ok : m.Ok) (A1 A2 : Option Addr) (n1 c1 n2 c2 : Nat) (w : World) (g1 : ZR sgK w w.heap.size A1 n1 c1 m.segs) (hn : n1 ≤ 16) :
  Calls Try.prog 33 #[.agg (mdC m (.slice A1 n1 c1) (.slice A2 n2 c2))] w fun e w' => e = .returned (eC m.segsC) ∧ Grow w w' := by
 have HS := hid (fun (s : Sg) (ok : s.Ok) (A : Option Addr) (n c : Nat) (w' : World) (hg : Grow w w') (g : RB w' w'.heap.size A n c s.pl.own) => mSeg_any m A1 A2 n1 c1 n2 c2 s ok A n c w' (g1.grow hg) g)
 obtain ⟨x0, x1, x2, x3, x4, x5, x6, x7, x9, x10, hC⟩ := mdC_cells m (.slice A1 n1 c1) (.slice A2 n2 c2)
 rw [hC] at HS ⊢
 have hcm := g1.max
 have hcc := g1.cap
 have HL := hid g1.len
 have HZ := hid g1
 have HOk := hid ok.segs
 have E : Hid (m.segsC = if fstC m.segC m.segs = 0 then (if rises (loads m.segs) then 0 else 7) else fstC m.segC m.segs) := hid rfl
 generalize m.segsC = C at E ⊢
 generalize m.segs = L at HL HZ HOk E
 clear hC g1 ok
 unfold maxLen at hcm
 go_enter Try.func33, Try.ntmps33
 go_wp2_with fail
 generalize hW : World.alloc _ _ = W0
 obtain ⟨b1, hg0⟩ := blk1 hW
 clear hW
 have HB1 := hid b1
 have HG0 := hid hg0
 have y8 := b1.at 8
 clear b1 hg0
 go_wp2_with fail
 clear y8
 go_loopw [3, 10] (fun x i wr => ∃ (k : Nat) (A : Option Addr) (c : Nat), k ≤ n1 ∧ i = .int .i64 k ∧ x = .slice A (loads (L.take k)).length c ∧ ZO wr W0.heap.size 90 2 A (loads (L.take k)).length c ((loads (L.take k)).map spC) ∧
  (∀ s ∈ L.take k, m.segC s = 0) ∧ Grow W0 wr) (fun _ i _ => n1 - (intOf i).toNat)
 case atStart => exact ⟨0, none, 0, by omega, rfl, rfl, ZO.nil, fun s h => absurd h (by simp), Grow.refl _⟩
 case round =>
  obtain ⟨k, A, c, hk, rfl, rfl, ho, hz, hg⟩ := hrel
  have HO := hid ho
  have HZ0 := hid hz
  have HG := hid hg
  have HB2 := hid (HB1.out.grow hg)
  have hlt := HB2.out.lt
  clear ho hz hg
  by_cases hlt : k < n1
  ·have hkl : k < L.length := by rw [← HL.out]; exact hlt
   obtain ⟨b, off, rfl, hb⟩ := HZ.out.pos (by omega)
   obtain ⟨Ak, nk, ck, -, hcell, gk⟩ := HZ.out.at hkl
   have hcell' : ∀ i v, (sgC L[k] (.slice Ak nk ck))[i]? = some v → wr.cell? ⟨b, off + k * 10 + i, none⟩ = some v := fun i v hv => (Below.cell (HG0.out.trans HG.out) hb).trans (hcell i v hv)
   have HS1 := hid (fun w' (hg : Grow wr w') => HS.out L[k] (HOk.out _ (List.getElem_mem _)) Ak nk ck w' (HG0.out.trans (HG.out.trans hg)) ((gk.belowAt (HG0.out.trans (HG.out.trans hg)) (Nat.le_refl _)).more (HG0.out.trans (HG.out.trans hg)).size))
   have HE1 := hid (loads_snoc L k hkl)
   have HE2 := hid (takeS L k hkl)
   have HE3 := hid (fun h => fstC_at (f := m.segC) hkl HZ0.out h)
   unfold loadOf at HE1
   unfold sgC at hcell' HS1
   generalize L[k] = s at hcell' HS1 HE1 HE2 HE3
   have t0 : wr.cell? ⟨b, off + k * 10, none⟩ = _ := hcell' 0 _ rfl
   have t1 := hcell' 1 _ rfl
   have t2 := hcell' 2 _ rfl
   have t3 := hcell' 3 _ rfl
   have t4 := hcell' 4 _ rfl
   have t5 := hcell' 5 _ rfl
   have t6 := hcell' 6 _ rfl
   have t7 := hcell' 7 _ rfl
   have t8 := hcell' 8 _ rfl
   have t9 := hcell' 9 _ rfl
   clear hcell hcell' gk
   generalize s.typ = ty at t0 HS1 HE1
   generalize s.vaddr = va at t2 HS1 HE1
   generalize s.memsz = ms at t4 HS1 HE1
   obtain ⟨v0, v1, v2, v3, v4, v5, v6, v7, v8, v9, v10⟩ := HB2.out.c11
   have hne : ¬ (w.heap.size = wr.heap.size) := by omega
   go_wp2_with fail
   generalize hW : World.alloc _ _ = W1
   obtain ⟨b5, hg5⟩ := blk1 hW
   clear hW t0 t1 t2 t3 t4 t5 t6 t7 t8 t9 v0 v1 v2 v3 v4 v5 v6 v7 v8 v9 v10 hne
   refine (HS1.out W1 hg5).mono ?_
   rintro e w2 ⟨rfl, hg2⟩
   have HO2 := hid (HO.out.keep (hg5.trans hg2))
   have HB5 := hid (b5.grow hg2)
   have HG2 : Hid (Grow W0 w2) := HG.out.trans (hg5.trans hg2)
   have HS2 := hid (HG2.out.size)
   clear b5 hg5 hg2 HS1 HO HG HB2
   obtain ⟨q, hq⟩ : ∃ q, m.segC s = q := ⟨_, rfl⟩
   rw [hq] at HE3 ⊢
   have HQ := hid hq
   clear hq
   by_cases hc : q = 0
   ·subst hc
    rw [eC_zero]
    have HZ1 : Hid (∀ s ∈ L.take (k + 1), m.segC s = 0) := hid fun a ha => by
     rw [HE2.out] at ha
     rcases List.mem_append.1 ha with h | h
     ·exact HZ0.out a h
     ·obtain rfl : a = s := by simpa using h
      exact HQ.out
    clear HE2 HE3
    obtain ⟨y0, y1, y2, y3, y4, y5, y6, y7, y8, y9⟩ := HB5.out.c10
    clear y1 y3 y5 y6 y7 y8 y9
    by_cases ht : ty = 1
    ·have d : ((ty : Int) == 1) = true := by simp [ht]
     have HE : Hid (loads (L.take (k + 1)) = loads (L.take k) ++ [(va, ms)]) := hid (by rw [HE1.out, if_pos ht])
     have HLen : Hid ((loads (L.take (k + 1))).length = (loads (L.take k)).length + 1) := hid (by rw [HE.out]; simp)
     have HLe : Hid ((loads (L.take k)).length ≤ 16) := hid (by have := loads_le (L.take k); rw [List.length_take] at this; omega)
     have HBR := hid (Blk.new w2 90 #[.int .u64 (va : Nat), .int .u64 (ms : Nat)])
     have hga := Grow.of_alloc w2 (.cells #[.int .u64 (va : Nat), .int .u64 (ms : Nat)] 90)
     have HO3 := hid (HO2.out.keep hga)
     have HG3 : Hid (Grow W0 (w2.alloc (.cells #[.int .u64 (va : Nat), .int .u64 (ms : Nat)] 90))) := HG2.out.trans hga
     have HS3 := hid HG3.out.size
     have HOne : Hid ((#[.int .u64 (va : Nat), .int .u64 (ms : Nat)] : Array Value).all (·.oneCell') = true) := hid (by simp [Value.oneCell'])
     clear ht HE1 hga HO2 HG2
     go_wp2_with (at_builtin; refine wpList_appendZ (w2.alloc (.cells #[.int .u64 (va : Nat), .int .u64 (ms : Nat)] 90)) rfl (.tmp 23) (.tmp 29) 87 rfl W0.heap.size 90 (.agg #[.int .u64 0, .int .u64 0]) 2 16 Try.underlying87 (by kernel_rfl) rfl (by omega) A _ c _ rfl HO3.out w2.heap.size _ #[.int .u64 (va : Nat), .int .u64 (ms : Nat)] rfl HBR.out rfl HOne.out (by have := HLe.out; unfold maxLen; omega) (by have := HLe.out; omega) HS3.out ?_; intro A5 c5 w6 ho5 hg5 hn5; refine Hid.out ?_)
     have hb5 : Below W0.heap.size (w2.alloc (.cells #[.int .u64 (va : Nat), .int .u64 (ms : Nat)] 90)) w6 := (Below.refl _ _).grown hg5 HS3.out (fun j hj => HO3.out.ge hj)
     have HG6 : Hid (Grow W0 w6) := HG3.out.trans' hb5
     have HO6 : Hid (ZO w6 W0.heap.size 90 2 A5 ((loads (L.take k)).length + 1) c5 ((loads (L.take (k + 1))).map spC)) := by
      rw [HE.out, List.map_append]
      exact ho5
     clear ho5 hg5 hn5 hb5 HBR HO3 HG3 HS3 y0 y2 y4 d
     refine hid ?_
     go_wp2
     go_roundw
     case rel => exact ⟨k + 1, A5, c5, by omega, by go_num, by rw [HLen.out], by rw [HLen.out]; exact HO6.out, HZ1.out, HG6.out⟩
     case measure => simp [intOf]; omega
    ·have d : ((ty : Int) == 1) = false := by simp; omega
     have HE : Hid (loads (L.take (k + 1)) = loads (L.take k)) := hid (by rw [HE1.out, if_neg ht, List.append_nil])
     clear ht HE1 y2 y4
     go_wp2
     go_roundw
     case rel => exact ⟨k + 1, A, c, by omega, by go_num, by rw [HE.out], by rw [HE.out]; exact HO2.out, HZ1.out, HG2.out⟩
     case measure => simp [intOf]; omega
   ·have E2 := hid (show C = q by rw [E.out, HE3.out hc, if_neg hc])
    have HC := hid hc
    rw [eC_some hc]
    clear hc
    go_wp2
    go_ret
    exact e_ret E2.out _ (eC_some HC.out).symm (HG0.out.trans HG2.out)
  ·have hkn : k = n1 := by omega
   have HT : Hid (L.take k = L) := hid (by rw [hkn, HL.out, List.take_length])
   have HF : Hid (fstC m.segC L = 0) := hid (fstC_zero.2 (by have := HZ0.out; rwa [HT.out] at this))
   have ho := HO.out
   have HLt := hid (loads_lt HOk.out)
   rw [HT.out] at ho ⊢
   have HR := hid (rising_any A _ c _ wr ho.zs HLt.out)
   have E2 := hid (show C = if rises (loads L) then 0 else 7 by rw [E.out, if_pos HF.out])
   generalize rises (loads L) = R at HR E2
   generalize loads L = LL at HR ⊢
   clear ho hkn
   go_wp2_with fail
   refine HR.out.mono ?_
   rintro e w2 ⟨rfl, hg2⟩
   have HG2 : Hid (Grow w w2) := HG0.out.trans (HG.out.trans hg2)
   clear hg2
   cases R with
   | false =>
    go_wp2
    go_ret
    exact e_ret (a := 7) (by rw [E2.out]; rfl) _ rfl HG2.out
   | true =>
    go_wp2
    go_ret
    exact e_ret (a := 0) (by rw [E2.out]; rfl) _ rfl HG2.out
theorem c_ret {a b : Nat} {w w' : World} (h : b = a) (v : Value) (hv : v = eC a) (hg : Grow w w') : Ending.returned v = .returned (eC b) ∧ Grow w w' := ⟨by rw [h, hv], hg⟩
set_option maxHeartbeats 2000000 in
theorem mSecs_any (m : Md) (ok : m.Ok) (A1 A2 : Option Addr) (n1 c1 n2 c2 : Nat) (w : World) (g1 : ZR sgK w w.heap.size A1 n1 c1 m.segs) (g2 : ZR seK w w.heap.size A2 n2 c2 m.secs) :
  Calls Try.prog 34 #[.agg (mdC m (.slice A1 n1 c1) (.slice A2 n2 c2))] w fun e w' => e = .returned (eC m.secsC) ∧ Grow w w' := by
 have HS := hid (fun (p : Pl) (A : Option Addr) (n c : Nat) (w' : World) (hg : Grow w w') (g : RB w' w'.heap.size A n c p.own) => mMay_any m A1 A2 n1 c1 n2 c2 p A n c w' (g1.grow hg) g)
 obtain ⟨x0, x1, x2, x3, x4, x5, x6, x7, x10, hC⟩ : ∃ x0 x1 x2 x3 x4 x5 x6 x7 x10 : Value, mdC m (.slice A1 n1 c1) (.slice A2 n2 c2) = #[x0, x1, x2, x3, x4, x5, x6, x7, .slice A1 n1 c1, .slice A2 n2 c2, x10] := ⟨_, _, _, _, _, _, _, _, _, rfl⟩
 rw [hC] at HS ⊢
 have hcm := g2.max
 have hcc := g2.cap
 have HL := hid g2.len
 have HZ := hid g2
 have HOk := hid ok.secs
 have E : Hid (m.secsC = fstC m.secC m.secs) := hid rfl
 have ED : Hid (∀ s : Se, m.secC s = if m.may s.pl = false then 1 else if s.pl.size ≠ s.held then 1 else if n2 < s.link then 10 else 0) := hid fun s => by rw [HL.out]; rfl
 generalize m.secsC = C at E ⊢
 generalize m.secs = L at HL HZ HOk E
 clear hC g1 g2 ok
 unfold maxLen at hcm
 go_enter Try.func34, Try.ntmps34
 go_wp2_with fail
 generalize hW : World.alloc _ _ = W0
 obtain ⟨b1, hg0⟩ := blk1 hW
 clear hW
 have HB1 := hid b1
 have HG0 := hid hg0
 have y9 := b1.at 9
 clear b1 hg0
 go_wp2_with fail
 clear y9
 go_loopw [8] (fun i wr => ∃ k : Nat, k ≤ n2 ∧ i = .int .i64 k ∧ (∀ s ∈ L.take k, m.secC s = 0) ∧ Grow W0 wr) (fun i _ => n2 - (intOf i).toNat)
 case atStart => exact ⟨0, by omega, rfl, fun s h => absurd h (by simp), Grow.refl _⟩
 case round =>
  obtain ⟨k, hk, rfl, hz, hg⟩ := hrel
  have HZ0 := hid hz
  have HG := hid hg
  have HB2 := hid (HB1.out.grow hg)
  have hlw := HB2.out.lt
  clear hz hg
  by_cases hlt : k < n2
  ·have hkl : k < L.length := by rw [← HL.out]; exact hlt
   obtain ⟨b, off, rfl, hb⟩ := HZ.out.pos (by omega)
   obtain ⟨Ak, nk, ck, -, hcell, gk⟩ := HZ.out.at hkl
   have hcell' : ∀ i v, (seC L[k] (.slice Ak nk ck))[i]? = some v → wr.cell? ⟨b, off + k * 13 + i, none⟩ = some v := fun i v hv => (Below.cell (HG0.out.trans HG.out) hb).trans (hcell i v hv)
   have HS1 := hid (fun w' (hg : Grow wr w') => HS.out L[k].pl Ak nk ck w' (HG0.out.trans (HG.out.trans hg)) ((gk.belowAt (HG0.out.trans (HG.out.trans hg)) (Nat.le_refl _)).more (HG0.out.trans (HG.out.trans hg)).size))
   have HH := hid (fun w => mHeld_any L[k] (.slice Ak nk ck) w)
   have HE2 := hid (takeS L k hkl)
   have HE3 := hid (fun h => fstC_at (f := m.secC) hkl HZ0.out h)
   have hlk := (HOk.out _ (List.getElem_mem hkl)).link
   have HED := hid (ED.out L[k])
   unfold plC at HS1
   unfold seC at hcell' HH
   generalize L[k] = s at hcell' HS1 HH HE2 HE3 hlk HED
   have t0 : wr.cell? ⟨b, off + k * 13, none⟩ = _ := hcell' 0 _ rfl
   have t1 := hcell' 1 _ rfl
   have t2 := hcell' 2 _ rfl
   have t3 := hcell' 3 _ rfl
   have t4 := hcell' 4 _ rfl
   have t5 := hcell' 5 _ rfl
   have t6 := hcell' 6 _ rfl
   have t7 := hcell' 7 _ rfl
   have t8 := hcell' 8 _ rfl
   have t9 := hcell' 9 _ rfl
   have t10 := hcell' 10 _ rfl
   have t11 := hcell' 11 _ rfl
   have t12 := hcell' 12 _ rfl
   clear hcell hcell' gk
   generalize m.may s.pl = my at HS1 HED
   generalize s.held = hd at HH HED
   generalize s.typ = ty at t1 HH
   generalize s.size = sz at t4 HH
   generalize s.link = lk at t5 HH hlk HED
   generalize s.pl.size = ps at t11 HH HS1 HED
   obtain ⟨v0, v1, v2, v3, v4, v5, v6, v7, v8, v9, v10⟩ := HB2.out.c11
   have hne : ¬ (w.heap.size = wr.heap.size) := by omega
   go_wp2_with fail
   refine wp_region_chain [(0, true), (1, true), (2, true), (3, false), (4, true), (5, true), (6, true), (7, true), (8, true), (9, true), (10, false), (11, true), (12, true)] (by kernel_rfl) (by kernel_rfl) (by kernel_rfl) ?_
   generalize hW : World.alloc _ _ = W1
   obtain ⟨b5, hg5⟩ := blk1 hW
   clear hW t0 t1 t2 t3 t4 t5 t6 t7 t8 t9 t10 t11 t12 v0 v1 v2 v3 v4 v5 v6 v7 v8 v9 v10 hne
   have HB5 := hid b5
   have HB3 := hid (HB2.out.grow hg5)
   have HGr : Hid (Grow wr W1.drew) := hg5.trans (Grow.of_drew _)
   have HGW : Hid (Grow W0 W1.drew) := HG.out.trans HGr.out
   have q0 : ∀ W, Grow W1.drew W → W.cell? ⟨w.heap.size, 0, none⟩ = some (x0) := fun W hW => (HB3.out.grow ((Grow.of_drew _).trans hW)).at 0
   have q1 : ∀ W, Grow W1.drew W → W.cell? ⟨w.heap.size, 1, none⟩ = some (x1) := fun W hW => (HB3.out.grow ((Grow.of_drew _).trans hW)).at 1
   have q2 : ∀ W, Grow W1.drew W → W.cell? ⟨w.heap.size, 2, none⟩ = some (x2) := fun W hW => (HB3.out.grow ((Grow.of_drew _).trans hW)).at 2
   have q3 : ∀ W, Grow W1.drew W → W.cell? ⟨w.heap.size, 3, none⟩ = some (x3) := fun W hW => (HB3.out.grow ((Grow.of_drew _).trans hW)).at 3
   have q4 : ∀ W, Grow W1.drew W → W.cell? ⟨w.heap.size, 4, none⟩ = some (x4) := fun W hW => (HB3.out.grow ((Grow.of_drew _).trans hW)).at 4
   have q5 : ∀ W, Grow W1.drew W → W.cell? ⟨w.heap.size, 5, none⟩ = some (x5) := fun W hW => (HB3.out.grow ((Grow.of_drew _).trans hW)).at 5
   have q6 : ∀ W, Grow W1.drew W → W.cell? ⟨w.heap.size, 6, none⟩ = some (x6) := fun W hW => (HB3.out.grow ((Grow.of_drew _).trans hW)).at 6
   have q7 : ∀ W, Grow W1.drew W → W.cell? ⟨w.heap.size, 7, none⟩ = some (x7) := fun W hW => (HB3.out.grow ((Grow.of_drew _).trans hW)).at 7
   have q8 : ∀ W, Grow W1.drew W → W.cell? ⟨w.heap.size, 8, none⟩ = some (.slice A1 n1 c1) := fun W hW => (HB3.out.grow ((Grow.of_drew _).trans hW)).at 8
   have q9 : ∀ W, Grow W1.drew W → W.cell? ⟨w.heap.size, 9, none⟩ = some (.slice (some ⟨b, off, none⟩) n2 c2) := fun W hW => (HB3.out.grow ((Grow.of_drew _).trans hW)).at 9
   have q10 : ∀ W, Grow W1.drew W → W.cell? ⟨w.heap.size, 10, none⟩ = some (x10) := fun W hW => (HB3.out.grow ((Grow.of_drew _).trans hW)).at 10
   have r0 : ∀ W, Grow W1.drew W → W.cell? ⟨wr.heap.size, 0, none⟩ = some (.int .u32 (s.name : Nat)) := fun W hW => (HB5.out.grow ((Grow.of_drew _).trans hW)).at 0
   have r1 : ∀ W, Grow W1.drew W → W.cell? ⟨wr.heap.size, 1, none⟩ = some (.int .u32 (ty : Nat)) := fun W hW => (HB5.out.grow ((Grow.of_drew _).trans hW)).at 1
   have r2 : ∀ W, Grow W1.drew W → W.cell? ⟨wr.heap.size, 2, none⟩ = some (.int .u64 (s.flags : Nat)) := fun W hW => (HB5.out.grow ((Grow.of_drew _).trans hW)).at 2
   have r3 : ∀ W, Grow W1.drew W → W.cell? ⟨wr.heap.size, 3, none⟩ = some (.int .u64 (s.addr : Nat)) := fun W hW => (HB5.out.grow ((Grow.of_drew _).trans hW)).at 3
   have r4 : ∀ W, Grow W1.drew W → W.cell? ⟨wr.heap.size, 4, none⟩ = some (.int .u64 (sz : Nat)) := fun W hW => (HB5.out.grow ((Grow.of_drew _).trans hW)).at 4
   have r5 : ∀ W, Grow W1.drew W → W.cell? ⟨wr.heap.size, 5, none⟩ = some (.int .u32 (lk : Nat)) := fun W hW => (HB5.out.grow ((Grow.of_drew _).trans hW)).at 5
   have r6 : ∀ W, Grow W1.drew W → W.cell? ⟨wr.heap.size, 6, none⟩ = some (.int .u32 (s.info : Nat)) := fun W hW => (HB5.out.grow ((Grow.of_drew _).trans hW)).at 6
   have r7 : ∀ W, Grow W1.drew W → W.cell? ⟨wr.heap.size, 7, none⟩ = some (.int .u64 (s.align : Nat)) := fun W hW => (HB5.out.grow ((Grow.of_drew _).trans hW)).at 7
   have r8 : ∀ W, Grow W1.drew W → W.cell? ⟨wr.heap.size, 8, none⟩ = some (.int .u64 (s.entsize : Nat)) := fun W hW => (HB5.out.grow ((Grow.of_drew _).trans hW)).at 8
   have r9 : ∀ W, Grow W1.drew W → W.cell? ⟨wr.heap.size, 9, none⟩ = some (.int .i64 s.pl.inn) := fun W hW => (HB5.out.grow ((Grow.of_drew _).trans hW)).at 9
   have r10 : ∀ W, Grow W1.drew W → W.cell? ⟨wr.heap.size, 10, none⟩ = some (.int .u64 (s.pl.off : Nat)) := fun W hW => (HB5.out.grow ((Grow.of_drew _).trans hW)).at 10
   have r11 : ∀ W, Grow W1.drew W → W.cell? ⟨wr.heap.size, 11, none⟩ = some (.int .u64 (ps : Nat)) := fun W hW => (HB5.out.grow ((Grow.of_drew _).trans hW)).at 11
   have r12 : ∀ W, Grow W1.drew W → W.cell? ⟨wr.heap.size, 12, none⟩ = some (.slice Ak nk ck) := fun W hW => (HB5.out.grow ((Grow.of_drew _).trans hW)).at 12
   clear b5 hg5
   have HB3' := hid (HB3.out.drew)
   have HB5' := hid (HB5.out.drew)
   clear HB3 HB5
   generalize W1.drew = w2 at HGr HGW HB3' HB5' q0 q1 q2 q3 q4 q5 q6 q7 q8 q9 q10 r0 r1 r2 r3 r4 r5 r6 r7 r8 r9 r10 r11 r12 ⊢
   repeat ((first | (refine chain_take rfl (by rfl) ?_ (fun W hG => ?_) ?_; rotate_left; (go_simp; rfl)) | refine chain_skip rfl (by rfl) ?_); simp only [Act.put, List.setIfInBounds_toArray, List.set_cons_zero, List.set_cons_succ])
   refine chain_only rfl (by rfl) (fun K hK => ?_)
   go_simp
   refine (HS1.out _ HGr.out).mono ?_
   rintro e w3 ⟨rfl, hg3⟩
   refine hK _ _ hg3 ?_
   have HG3 : Hid (Grow W0 w3) := HGW.out.trans hg3
   clear hK K HS1
   cases my with
   | false =>
    clear q0 q1 q2 q3 q4 q5 q6 q7 q8 q9 q10 r0 r1 r2 r3 r4 r5 r6 r7 r8 r9 r10 r11 r12 hg3
    have E2 := hid (show C = 1 by
     have e1 : m.secC s = 1 := by rw [HED.out, if_pos rfl]
     rw [E.out, HE3.out (by omega), e1])
    repeat ((first | (refine chain_take rfl (by rfl) ?_ (fun W hG => ?_) ?_; rotate_left; (go_simp; rfl)) | refine chain_skip rfl (by rfl) ?_); simp only [Act.put, List.setIfInBounds_toArray, List.set_cons_zero, List.set_cons_succ])
    refine chain_none rfl (by rfl) ?_
    simp only [Act.put, List.setIfInBounds_toArray, List.set_cons_zero, List.set_cons_succ]
    repeat ((first | (refine chain_take rfl (by rfl) ?_ (fun W hG => ?_) ?_; rotate_left; (go_simp; rfl)) | refine chain_skip rfl (by rfl) ?_); simp only [Act.put, List.setIfInBounds_toArray, List.set_cons_zero, List.set_cons_succ])
    refine chain_done ?_
    go_wp2
    go_ret
    exact c_ret E2.out _ rfl (HG0.out.trans HG3.out)
   | true =>
    clear q0 q1 q2 q3 q4 q5 q6 q7 q8 q9 q10 r0 r1 r2 r3 r4 r5 r6 r7 r8 r9 r10 r11 r12
    have u'0 : ∀ W, Grow w3 W → W.cell? ⟨wr.heap.size, 0, none⟩ = some (.int .u32 (s.name : Nat)) := fun W hW => (HB5'.out.grow (hg3.trans hW)).at 0
    have u'1 : ∀ W, Grow w3 W → W.cell? ⟨wr.heap.size, 1, none⟩ = some (.int .u32 (ty : Nat)) := fun W hW => (HB5'.out.grow (hg3.trans hW)).at 1
    have u'2 : ∀ W, Grow w3 W → W.cell? ⟨wr.heap.size, 2, none⟩ = some (.int .u64 (s.flags : Nat)) := fun W hW => (HB5'.out.grow (hg3.trans hW)).at 2
    have u'3 : ∀ W, Grow w3 W → W.cell? ⟨wr.heap.size, 3, none⟩ = some (.int .u64 (s.addr : Nat)) := fun W hW => (HB5'.out.grow (hg3.trans hW)).at 3
    have u'4 : ∀ W, Grow w3 W → W.cell? ⟨wr.heap.size, 4, none⟩ = some (.int .u64 (sz : Nat)) := fun W hW => (HB5'.out.grow (hg3.trans hW)).at 4
    have u'5 : ∀ W, Grow w3 W → W.cell? ⟨wr.heap.size, 5, none⟩ = some (.int .u32 (lk : Nat)) := fun W hW => (HB5'.out.grow (hg3.trans hW)).at 5
    have u'6 : ∀ W, Grow w3 W → W.cell? ⟨wr.heap.size, 6, none⟩ = some (.int .u32 (s.info : Nat)) := fun W hW => (HB5'.out.grow (hg3.trans hW)).at 6
    have u'7 : ∀ W, Grow w3 W → W.cell? ⟨wr.heap.size, 7, none⟩ = some (.int .u64 (s.align : Nat)) := fun W hW => (HB5'.out.grow (hg3.trans hW)).at 7
    have u'8 : ∀ W, Grow w3 W → W.cell? ⟨wr.heap.size, 8, none⟩ = some (.int .u64 (s.entsize : Nat)) := fun W hW => (HB5'.out.grow (hg3.trans hW)).at 8
    have u'9 : ∀ W, Grow w3 W → W.cell? ⟨wr.heap.size, 9, none⟩ = some (.int .i64 s.pl.inn) := fun W hW => (HB5'.out.grow (hg3.trans hW)).at 9
    have u'10 : ∀ W, Grow w3 W → W.cell? ⟨wr.heap.size, 10, none⟩ = some (.int .u64 (s.pl.off : Nat)) := fun W hW => (HB5'.out.grow (hg3.trans hW)).at 10
    have u'11 : ∀ W, Grow w3 W → W.cell? ⟨wr.heap.size, 11, none⟩ = some (.int .u64 (ps : Nat)) := fun W hW => (HB5'.out.grow (hg3.trans hW)).at 11
    have u'12 : ∀ W, Grow w3 W → W.cell? ⟨wr.heap.size, 12, none⟩ = some (.slice Ak nk ck) := fun W hW => (HB5'.out.grow (hg3.trans hW)).at 12
    have HB3 := hid (HB3'.out.grow hg3)
    have HB5 := hid (HB5'.out.grow hg3)
    clear hg3 HB3' HB5' HGr HGW
    repeat ((first | (refine chain_take rfl (by rfl) ?_ (fun W hG => ?_) ?_; rotate_left; (go_simp; rfl)) | refine chain_skip rfl (by rfl) ?_); simp only [Act.put, List.setIfInBounds_toArray, List.set_cons_zero, List.set_cons_succ])
    refine chain_only rfl (by rfl) (fun K hK => ?_)
    go_simp
    refine (HH.out _).mono ?_
    rintro e w4 ⟨rfl, hg4⟩
    refine hK _ _ hg4 ?_
    have HG4 : Hid (Grow W0 w4) := HG3.out.trans hg4
    have HB6 := hid (HB3.out.grow hg4)
    have HB7 := hid (HB5.out.grow hg4)
    clear hK K HH hg4 HB3 HB5 HG3 u'0 u'1 u'2 u'3 u'4 u'5 u'6 u'7 u'8 u'9 u'10 u'11 u'12
    rw [if_neg (by decide)] at HED
    by_cases hps : ps = hd
    ·have d : ((ps : Int) != (hd : Int)) = false := by simp [hps]
     rw [if_neg (by simpa using hps)] at HED
     clear hps
     repeat ((first | (refine chain_take rfl (by rfl) ?_ (fun W hG => ?_) ?_; rotate_left; (go_simp; rfl)) | refine chain_skip rfl (by rfl) ?_); simp only [Act.put, List.setIfInBounds_toArray, List.set_cons_zero, List.set_cons_succ])
     refine chain_done ?_
     have y9 := HB6.out.at 9
     have y5 := HB7.out.at 5
     have z1 : IntKind.u64.wrap (lk : Int) = (lk : Int) := by rw [IntKind.wrap_u64]; omega
     have z2 : IntKind.u64.wrap (n2 : Int) = (n2 : Int) := by rw [IntKind.wrap_u64]; omega
     by_cases hk2 : n2 < lk
     ·have e1 : decide (n2 < lk) = true := decide_eq_true hk2
      have e2 : decide ((n2 : Int) < (lk : Int)) = true := decide_eq_true (by omega)
      have E2 := hid (show C = 10 by
       have e1 : m.secC s = 10 := by rw [HED.out, if_pos hk2]
       rw [E.out, HE3.out (by omega), e1])
      clear hk2 d
      go_wp2
      go_ret
      exact c_ret E2.out _ rfl (HG0.out.trans HG4.out)
     ·have e1 : decide (n2 < lk) = false := decide_eq_false hk2
      have e2 : decide ((n2 : Int) < (lk : Int)) = false := decide_eq_false (by omega)
      have HZ1 : Hid (∀ s ∈ L.take (k + 1), m.secC s = 0) := hid fun a ha => by
       rw [HE2.out] at ha
       rcases List.mem_append.1 ha with h | h
       ·exact HZ0.out a h
       ·obtain rfl : a = s := by simpa using h
        rw [HED.out, if_neg hk2]
      clear hk2 d
      go_wp2
      go_roundw
      case rel => exact ⟨k + 1, by omega, by go_num, HZ1.out, HG4.out⟩
      case measure => simp [intOf]; omega
    ·have d : ((ps : Int) != (hd : Int)) = true := by simp; omega
     have E2 := hid (show C = 1 by
      have e1 : m.secC s = 1 := by rw [HED.out, if_pos hps]
      rw [E.out, HE3.out (by omega), e1])
     clear hps
     repeat ((first | (refine chain_take rfl (by rfl) ?_ (fun W hG => ?_) ?_; rotate_left; (go_simp; rfl)) | refine chain_skip rfl (by rfl) ?_); simp only [Act.put, List.setIfInBounds_toArray, List.set_cons_zero, List.set_cons_succ])
     refine chain_done ?_
     go_wp2
     go_ret
     exact c_ret E2.out _ rfl (HG0.out.trans HG4.out)
  ·have hkn : k = n2 := by omega
   have HT : Hid (L.take k = L) := hid (by rw [hkn, HL.out, List.take_length])
   have E2 := hid (show C = 0 by rw [E.out]; exact fstC_zero.2 (by have := HZ0.out; rwa [HT.out] at this))
   clear hkn
   go_wp2
   go_ret
   exact c_ret E2.out _ rfl (HG0.out.trans HG.out)
end Go.Proofs.Ytfbimboemahhhaa
