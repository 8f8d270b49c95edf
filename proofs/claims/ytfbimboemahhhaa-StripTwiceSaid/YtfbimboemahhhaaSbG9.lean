/-
  Several texts in one: The contracts of model; The contract of model; Rows of the call's own, of several kinds.
-/
import Derived.Test.YtfbimboemahhhaaSbG7
import Derived.Test.YtfbimboemahhhaaSbG3
import Derived.Test.YtfbimboemahhhaaSbG8
import Derived.Test.YtfbimboemahhhaaSbG6
import Derived.WalkKit
import Derived.BigQuiet
import Derived.Deep.QuietTactic
import Derived.Lib.Hide
import Derived.Laws.MakeOwn
import Derived.Test.YtfbimboemahhhaaRows
import Derived.Test.YtfbimboemahhhaaSbG1
import Derived.Test.YtfbimboemahhhaaSbG2
import Derived.Laws.ResultCell
import Derived.Lib.BufferWrite
import Derived.Deep.WholeRow
import Derived.Lib.SmallJoins
import Derived.Deep.OwnRows
namespace Go.Proofs.Ytfbimboemahhhaa
open Go.Lib (hid)
open Go.RowKit
theorem n_ret {a b : Nat} {w w' : World} (h : b = a) (v : Value) (hv : v = eC a) (hg : Grow w w') : Ending.returned v = .returned (eC b) ∧ Grow w w' := ⟨by rw [h, hv], hg⟩
theorem Md.tab_at (m : Md) (k : Nat) (h : m.str = (k : Int) + 1) (hk : k < m.secs.length) : m.tab = m.secs[k] := by
 unfold Md.tab
 rw [h]
 simp [List.getD_eq_getElem?_getD, hk]
set_option maxHeartbeats 2000000 in
theorem mNamed_any (m : Md) (ok : m.Ok) (A1 A2 : Option Addr) (n1 c1 n2 c2 : Nat) (w : World) (g2 : ZR seK w w.heap.size A2 n2 c2 m.secs) (h0 : 0 ≤ m.str) (h1 : m.str ≤ n2) :
  Calls Try.prog 59 #[.agg (mdC m (.slice A1 n1 c1) (.slice A2 n2 c2))] w fun e w' => e = .returned (.bool m.named) ∧ Grow w w' := by
 obtain ⟨x0, x1, x2, x3, x4, x5, x6, x7, hC⟩ : ∃ x0 x1 x2 x3 x4 x5 x6 x7 : Value, mdC m (.slice A1 n1 c1) (.slice A2 n2 c2) = #[x0, x1, x2, x3, x4, x5, x6, x7, .slice A1 n1 c1, .slice A2 n2 c2, .int .i64 m.str] := ⟨_, _, _, _, _, _, _, _, rfl⟩
 rw [hC]
 have hcm := g2.max
 have hcc := g2.cap
 have HL := hid g2.len
 have HZ := hid g2
 have HOk := hid ok.secs
 unfold maxLen at hcm
 by_cases hs : m.str = 0
 ·have E := hid (show m.named = m.secs.all fun s => decide (s.name = 0) by unfold Md.named; rw [if_pos hs])
  have HH := hid (fun (w' : World) (hg : Grow w w') => hasS_any A2 n2 c2 m.secs w' (g2.grow hg))
  rw [← E.out] at HH
  rw [hs]
  generalize m.named = R at HH ⊢
  clear hC g2 ok hs h0 h1 E HZ HOk HL
  go_enter Try.func59, Try.ntmps59
  go_wp2_with fail
  generalize hW : World.alloc _ _ = W0
  obtain ⟨b1, hg0⟩ := blk1 hW
  clear hW
  have HG0 := hid hg0
  have y9 := b1.at 9
  have y10 := b1.at 10
  clear b1 hg0
  go_wp2_with fail
  clear y9 y10
  refine (HH.out _ HG0.out).mono ?_
  rintro e w1 ⟨rfl, hg1⟩
  have HG1 : Hid (Grow w w1) := HG0.out.trans hg1
  clear hg1
  go_wp2
  go_ret
  exact ⟨ret_bool (by simp), HG1.out⟩
 ·obtain ⟨k, hk⟩ : ∃ k : Nat, m.str = (k : Int) + 1 := ⟨(m.str - 1).toNat, by omega⟩
  have hkl : k < m.secs.length := by have := g2.len; omega
  have hkn : k < n2 := by omega
  have E0 := hid (show m.named = (decide (m.tab.typ = 3) && decide (m.tab.pl.inn = -1) && m.secs.all fun s => (nameAt m.tab.pl.own s.name).isSome) by unfold Md.named; rw [if_neg hs])
  rw [m.tab_at k hk hkl] at E0
  obtain ⟨b, off, rfl, hb⟩ := g2.pos (by omega)
  obtain ⟨At, nt, ct, -, hcell, gt⟩ := g2.at hkl
  have hcellT : ∀ i v, (seC m.secs[k] (.slice At nt ct))[i]? = some v → w.cell? ⟨b, off + k * 13 + i, none⟩ = some v := hcell
  have HGT : Hid (RB w w.heap.size At nt ct m.secs[k].pl.own) := hid gt
  have HBb := hid hb
  rw [hk]
  unfold seC at hcellT
  generalize m.secs[k] = t at E0 hcellT HGT
  generalize m.named = R at E0 ⊢
  have t0 : w.cell? ⟨b, off + k * 13, none⟩ = _ := hcellT 0 _ rfl
  have t1 : w.cell? ⟨b, off + k * 13 + 1, none⟩ = _ := hcellT 1 _ rfl
  have t2 : w.cell? ⟨b, off + k * 13 + 2, none⟩ = _ := hcellT 2 _ rfl
  have t3 : w.cell? ⟨b, off + k * 13 + 3, none⟩ = _ := hcellT 3 _ rfl
  have t4 : w.cell? ⟨b, off + k * 13 + 4, none⟩ = _ := hcellT 4 _ rfl
  have t5 : w.cell? ⟨b, off + k * 13 + 5, none⟩ = _ := hcellT 5 _ rfl
  have t6 : w.cell? ⟨b, off + k * 13 + 6, none⟩ = _ := hcellT 6 _ rfl
  have t7 : w.cell? ⟨b, off + k * 13 + 7, none⟩ = _ := hcellT 7 _ rfl
  have t8 : w.cell? ⟨b, off + k * 13 + 8, none⟩ = _ := hcellT 8 _ rfl
  have t9 : w.cell? ⟨b, off + k * 13 + 9, none⟩ = _ := hcellT 9 _ rfl
  have t10 : w.cell? ⟨b, off + k * 13 + 10, none⟩ = _ := hcellT 10 _ rfl
  have t11 : w.cell? ⟨b, off + k * 13 + 11, none⟩ = _ := hcellT 11 _ rfl
  have t12 : w.cell? ⟨b, off + k * 13 + 12, none⟩ = _ := hcellT 12 _ rfl
  have hbne : ¬ (b = w.heap.size) := by omega
  have hbne' : ¬ (w.heap.size = b) := by omega
  generalize m.secs = L at HL HZ HOk E0
  clear hC g2 ok hs h0 h1 hcell hcellT gt hkl hk
  have e1 : ((k : Int) + 1 == 0) = false := by simp; omega
  have e2 : IntKind.i64.wrap ((k : Int) + 1 - 1) = (k : Int) := by rw [IntKind.wrap_i64]; omega
  generalize t.pl.own = own at E0 HGT
  generalize t.typ = ty at E0 t1
  generalize t.pl.inn = pi at E0 t9
  by_cases h3 : ty ≠ 3
  ·have E := hid (show R = false by rw [E0.out]; simp [h3])
   have d3 : ((ty : Int) != 3) = true := by simp; omega
   clear h3 E0
   go_enter Try.func59, Try.ntmps59
   go_wp2
   go_ret
   exact ⟨ret_bool E.out.symm, (Grow.of_alloc _ _).trans (Grow.of_alloc _ _)⟩
  have h3 : ty = 3 := by omega
  by_cases hi : pi ≠ -1
  ·have E := hid (show R = false by rw [E0.out]; simp [hi])
   have d3 : ((ty : Int) != 3) = false := by simp [h3]
   have di : (pi != -1) = true := by simpa using hi
   clear h3 hi E0
   go_enter Try.func59, Try.ntmps59
   go_wp2
   go_ret
   exact ⟨ret_bool E.out.symm, (Grow.of_alloc _ _).trans (Grow.of_alloc _ _)⟩
  have hi : pi = -1 := by omega
  have E := hid (show R = L.all fun s => (nameAt own s.name).isSome by rw [E0.out]; simp [h3, hi])
  have d3 : ((ty : Int) != 3) = false := by simp [h3]
  have di : (pi != -1) = false := by simp [hi]
  clear h3 hi E0
  go_enter Try.func59, Try.ntmps59
  go_wp2_with fail
  generalize hW : World.alloc _ _ = W1
  obtain ⟨-, b5, hg5⟩ := blk2 hW
  clear hW t0 t1 t2 t3 t4 t5 t6 t7 t8 t9 t10 t11 t12 d3 di hbne hbne' e1 e2 hb
  have HB5 := hid b5
  have HG5 := hid hg5
  have HGT1 := hid (HGT.out.grow hg5)
  clear b5 hg5
  go_loopw [34] (fun i wr => ∃ q : Nat, q ≤ n2 ∧ i = .int .i64 q ∧ (∀ s ∈ L.take q, (nameAt own s.name).isSome = true) ∧ Grow W1 wr) (fun i _ => n2 - (intOf i).toNat)
  case atStart => exact ⟨0, by omega, rfl, fun s h => absurd h (by simp), Grow.refl _⟩
  case round =>
   obtain ⟨q, hq, rfl, hz, hg⟩ := hrel
   have HZ0 := hid hz
   have HG := hid hg
   have HB6 := hid (HB5.out.grow hg)
   have hl5 := HB6.out.lt
   clear hz hg
   by_cases hlt : q < n2
   ·have hkl : q < L.length := by rw [← HL.out]; exact hlt
    obtain ⟨Ak, nk, ck, -, hcell, -⟩ := HZ.out.at hkl
    have hcell' : ∀ i v, (seC L[q] (.slice Ak nk ck))[i]? = some v → wr.cell? ⟨b, off + q * 13 + i, none⟩ = some v := fun i v hv => (Below.cell (HG5.out.trans HG.out) HBb.out).trans (hcell i v hv)
    have HT := hid (takeS L q hkl)
    have hnm := (HOk.out _ (List.getElem_mem hkl)).name
    unfold seC at hcell'
    generalize L[q] = s at hcell' HT hnm
    have t0 : wr.cell? ⟨b, off + q * 13, none⟩ = _ := hcell' 0 _ rfl
    have t1 := hcell' 1 _ rfl
    have t2 := hcell' 2 _ rfl
    have t3 := hcell' 3 _ rfl
    have t4 := hcell' 4 _ rfl
    have t5 := hcell' 5 _ rfl
    have t6 := hcell' 6 _ rfl
    have t7 := hcell' 7 _ rfl
    have t8 := hcell' 8 _ rfl
    have t9 := hcell' 9 _ rfl
    have t10 := hcell' 10 _ rfl
    have t11 := hcell' 11 _ rfl
    have t12 := hcell' 12 _ rfl
    clear hcell hcell'
    have y12 := HB6.out.at 12
    have hne : ¬ (w.heap.size + 1 = wr.heap.size) := by omega
    have z : IntKind.u64.wrap (s.name : Int) = (s.name : Int) := by rw [IntKind.wrap_u64]; omega
    go_wp2_with fail
    generalize hW : World.alloc _ _ = W2
    obtain ⟨b7, hg7⟩ := blk1 hW
    clear hW t0 t1 t2 t3 t4 t5 t6 t7 t8 t9 t10 t11 t12 y12 hne z b7
    have HG7 : Hid (Grow W1 W2) := HG.out.trans hg7
    refine (strGet_any At nt ct own s.name W2 (HGT1.out.grow HG7.out) (by omega)).mono ?_
    unfold GotN
    rintro e w' ⟨rfl, rfl⟩
    clear hg7
    generalize bstr ((nameAt own s.name).getD []) = str
    obtain ⟨v, hv⟩ : ∃ v, (nameAt own s.name).isSome = v := ⟨_, rfl⟩
    rw [hv]
    cases v with
    | true =>
     have HZ1 : Hid (∀ s ∈ L.take (q + 1), (nameAt own s.name).isSome = true) := hid fun a ha => by
      rw [HT.out] at ha
      rcases List.mem_append.1 ha with h | h
      ·exact HZ0.out a h
      ·obtain rfl : a = s := by simpa using h
       exact hv
     clear hv
     go_wp2
     go_roundw
     case rel => exact ⟨q + 1, by omega, by go_num, HZ1.out, HG7.out⟩
     case measure => simp [intOf]; omega
    | false =>
     have E2 := hid (show R = false by
      rw [E.out, List.all_eq_false]
      have hm : s ∈ L.take (q + 1) := by rw [HT.out]; simp
      exact ⟨s, List.mem_of_mem_take hm, by rw [hv]; decide⟩)
     clear hv
     go_wp2
     go_ret
     exact ⟨ret_bool E2.out.symm, HG5.out.trans HG7.out⟩
   ·have E2 := hid (show R = true by
     rw [E.out, List.all_eq_true]
     have : L.take q = L := by rw [List.take_of_length_le (by have := HL.out; omega)]
     have h := HZ0.out
     rwa [this] at h)
    go_wp2
    go_ret
    exact ⟨ret_bool E2.out.symm, HG5.out.trans HG.out⟩
set_option maxHeartbeats 400000 in
theorem mNames_any (m : Md) (ok : m.Ok) (A1 A2 : Option Addr) (n1 c1 n2 c2 : Nat) (w : World) (g2 : ZR seK w w.heap.size A2 n2 c2 m.secs) :
  Calls Try.prog 35 #[.agg (mdC m (.slice A1 n1 c1) (.slice A2 n2 c2))] w fun e w' => e = .returned (eC m.namesC) ∧ Grow w w' := by
 have HH := hid (fun (w' : World) (hg : Grow w w') h0 h1 => mNamed_any m ok A1 A2 n1 c1 n2 c2 w' (g2.grow hg) h0 h1)
 obtain ⟨x0, x1, x2, x3, x4, x5, x6, x7, hC⟩ : ∃ x0 x1 x2 x3 x4 x5 x6 x7 : Value, mdC m (.slice A1 n1 c1) (.slice A2 n2 c2) = #[x0, x1, x2, x3, x4, x5, x6, x7, .slice A1 n1 c1, .slice A2 n2 c2, .int .i64 m.str] := ⟨_, _, _, _, _, _, _, _, rfl⟩
 rw [hC] at HH ⊢
 have E := hid (show m.namesC = if m.str < 0 then 10 else if (n2 : Int) < m.str then 10 else if m.named then 0 else 9 by unfold Md.namesC; rw [g2.len])
 have hcm := g2.max
 have hcc := g2.cap
 unfold maxLen at hcm
 generalize m.namesC = C at E ⊢
 generalize m.named = R at HH E
 generalize m.str = st at HH E ⊢
 clear hC g2 ok
 by_cases h0 : st < 0
 ·have E2 := hid (show C = 10 by rw [E.out, if_pos h0])
  go_enter Try.func35, Try.ntmps35
  go_wp2
  go_ret
  exact n_ret E2.out _ rfl (Grow.of_alloc _ _)
 rw [if_neg h0] at E
 have d0 : decide (st < 0) = false := decide_eq_false h0
 by_cases h1 : (n2 : Int) < st
 ·have E2 := hid (show C = 10 by rw [E.out, if_pos h1])
  clear h0
  go_enter Try.func35, Try.ntmps35
  go_wp2
  go_ret
  exact n_ret E2.out _ rfl (Grow.of_alloc _ _)
 rw [if_neg h1] at E
 have d1 : decide ((n2 : Int) < st) = false := decide_eq_false h1
 have HQ := hid (show 0 ≤ st ∧ st ≤ (n2 : Int) from ⟨by omega, by omega⟩)
 clear h0 h1
 go_enter Try.func35, Try.ntmps35
 go_wp2_with fail
 clear d0 d1
 refine (HH.out _ (Grow.of_alloc _ _) HQ.out.1 HQ.out.2).mono ?_
 rintro e w1 ⟨rfl, hg1⟩
 have HG1 : Hid (Grow w w1) := (Grow.of_alloc _ _).trans hg1
 clear hg1
 cases R with
 | true =>
  have E2 := hid (show C = 0 by rw [E.out]; rfl)
  go_wp2
  go_ret
  exact n_ret E2.out _ rfl HG1.out
 | false =>
  have E2 := hid (show C = 9 by rw [E.out]; rfl)
  go_wp2
  go_ret
  exact n_ret E2.out _ rfl HG1.out
set_option maxHeartbeats 1000000 in
theorem check_any (m : Md) (ok : m.Ok) (A1 A2 : Option Addr) (n1 c1 n2 c2 : Nat) (w : World) (g1 : ZR sgK w w.heap.size A1 n1 c1 m.segs) (g2 : ZR seK w w.heap.size A2 n2 c2 m.secs) :
  Calls Try.prog 14 #[.agg (mdC m (.slice A1 n1 c1) (.slice A2 n2 c2))] w fun e w' => e = .returned (eC m.chk) ∧ Grow w w' := by
 have HF := hid (fun (w' : World) (hg : Grow w w') h1 h2 => mFits_any m ok A1 A2 n1 c1 n2 c2 w' (g1.grow hg) (g2.grow hg) h1 h2)
 have HS := hid (fun (w' : World) (hg : Grow w w') h1 => mSegs_any m ok A1 A2 n1 c1 n2 c2 w' (g1.grow hg) h1)
 have HC := hid (fun (w' : World) (hg : Grow w w') => mSecs_any m ok A1 A2 n1 c1 n2 c2 w' (g1.grow hg) (g2.grow hg))
 have HN := hid (fun (w' : World) (hg : Grow w w') => mNames_any m ok A1 A2 n1 c1 n2 c2 w' (g2.grow hg))
 obtain ⟨x0, x1, x2, x3, x4, x5, x6, x7, x10, hC⟩ : ∃ x0 x1 x2 x3 x4 x5 x6 x7 x10 : Value, mdC m (.slice A1 n1 c1) (.slice A2 n2 c2) = #[x0, x1, x2, x3, x4, x5, x6, x7, .slice A1 n1 c1, .slice A2 n2 c2, x10] := ⟨_, _, _, _, _, _, _, _, _, rfl⟩
 rw [hC] at HF HS HC HN ⊢
 have E := hid (show m.chk = if (decide (16 < n1) || decide (64 < n2)) = true then 8 else if m.fits = false then 1 else if m.segsC ≠ 0 then m.segsC else if m.secsC ≠ 0 then m.secsC else m.namesC by unfold Md.chk Md.large; rw [g1.len, g2.len])
 generalize m.chk = C at E ⊢
 generalize m.fits = fi at E HF
 generalize m.segsC = cs at E HS
 generalize m.secsC = cc at E HC
 generalize m.namesC = cn at E HN
 clear hC g1 g2 ok
 by_cases h1 : 16 < n1
 ·have E2 := hid (show C = 8 by rw [E.out]; simp [h1])
  have d1 : decide (16 < n1) = true := decide_eq_true h1
  have d1' : decide ((16 : Int) < (n1 : Int)) = true := decide_eq_true (by omega)
  clear h1
  go_enter Try.func14, Try.ntmps14
  go_wp2
  go_ret
  exact n_ret E2.out _ rfl (Grow.of_alloc _ _)
 have d1 : decide (16 < n1) = false := decide_eq_false h1
 have d1' : decide ((16 : Int) < (n1 : Int)) = false := decide_eq_false (by omega)
 by_cases h2 : 64 < n2
 ·have E2 := hid (show C = 8 by rw [E.out]; simp [h2])
  have d2 : decide (64 < n2) = true := decide_eq_true h2
  have d2' : decide ((64 : Int) < (n2 : Int)) = true := decide_eq_true (by omega)
  clear h1 h2
  go_enter Try.func14, Try.ntmps14
  go_wp2
  go_ret
  exact n_ret E2.out _ rfl (Grow.of_alloc _ _)
 have d2 : decide (64 < n2) = false := decide_eq_false h2
 have d2' : decide ((64 : Int) < (n2 : Int)) = false := decide_eq_false (by omega)
 have HQ := hid (show n1 ≤ 16 ∧ n2 ≤ 64 from ⟨by omega, by omega⟩)
 rw [d1, d2, Bool.false_or, if_neg (by decide)] at E
 clear h1 h2
 go_enter Try.func14, Try.ntmps14
 go_wp2_with fail
 generalize hW : World.alloc _ _ = W0
 obtain ⟨b1, hg0⟩ := blk1 hW
 clear hW d1 d1' d2 d2'
 have HB0 := hid b1
 have HG0 := hid hg0
 clear b1 hg0
 refine (HF.out _ HG0.out HQ.out.1 HQ.out.2).mono ?_
 rintro e w1 ⟨rfl, hg1⟩
 have HB1 := hid (HB0.out.grow hg1)
 have HG1 : Hid (Grow w w1) := HG0.out.trans hg1
 clear hg1 HB0 HG0 HF
 cases fi with
 | false =>
  have E2 := hid (show C = 1 by rw [E.out, if_pos rfl])
  go_wp2
  go_ret
  exact n_ret E2.out _ rfl HG1.out
 | true =>
 rw [if_neg (by decide)] at E
 obtain ⟨v0, v1, v2, v3, v4, v5, v6, v7, v8, v9, v10⟩ := HB1.out.c11
 go_wp2_with fail
 clear v0 v1 v2 v3 v4 v5 v6 v7 v8 v9 v10
 refine (HS.out _ HG1.out HQ.out.1).mono ?_
 rintro e w2 ⟨rfl, hg2⟩
 have HB2 := hid (HB1.out.grow hg2)
 have HG2 : Hid (Grow w w2) := HG1.out.trans hg2
 clear hg2 HB1 HG1 HS
 by_cases h3 : cs ≠ 0
 ·have E2 := hid (show C = cs by rw [E.out, if_pos h3])
  have HNE := hid h3
  rw [eC_some h3]
  clear h3
  go_wp2
  go_ret
  exact n_ret E2.out _ (eC_some HNE.out).symm HG2.out
 have h3 : cs = 0 := by omega
 rw [if_neg (by simpa using h3)] at E
 rw [h3, eC_zero]
 clear h3
 obtain ⟨v0, v1, v2, v3, v4, v5, v6, v7, v8, v9, v10⟩ := HB2.out.c11
 go_wp2_with fail
 clear v0 v1 v2 v3 v4 v5 v6 v7 v8 v9 v10
 refine (HC.out _ HG2.out).mono ?_
 rintro e w3 ⟨rfl, hg3⟩
 have HB3 := hid (HB2.out.grow hg3)
 have HG3 : Hid (Grow w w3) := HG2.out.trans hg3
 clear hg3 HB2 HG2 HC
 by_cases h4 : cc ≠ 0
 ·have E2 := hid (show C = cc by rw [E.out, if_pos h4])
  have HNE := hid h4
  rw [eC_some h4]
  clear h4
  go_wp2
  go_ret
  exact n_ret E2.out _ (eC_some HNE.out).symm HG3.out
 have h4 : cc = 0 := by omega
 rw [if_neg (by simpa using h4)] at E
 rw [h4, eC_zero]
 clear h4
 obtain ⟨v0, v1, v2, v3, v4, v5, v6, v7, v8, v9, v10⟩ := HB3.out.c11
 go_wp2_with fail
 clear v0 v1 v2 v3 v4 v5 v6 v7 v8 v9 v10
 refine (HN.out _ HG3.out).mono ?_
 rintro e w4 ⟨rfl, hg4⟩
 have HG4 : Hid (Grow w w4) := HG3.out.trans hg4
 clear hg4
 generalize hev : eC cn = ev
 have HE := hid hev
 clear hev
 go_wp2
 go_ret
 exact n_ret E.out _ HE.out.symm HG4.out
set_option linter.unusedVariables false
theorem OB.from_ {w : World} {base : Nat} {e : TypeId} {A : Option Addr} {n c : Nat} {l : List UInt8} (h : OB w base e A n c l) {g : Nat} (hg : own A = some g) : base ≤ g ∧ g < w.heap.size := by
 rcases h.2 with ⟨hv, _⟩ | ⟨g', cap, cur, hv, hb, hh, _⟩
 ·injection hv with e1 _ _
  subst e1
  cases hg
 ·injection hv with e1 _ _
  subst e1
  have e3 : g' = g := Option.some.inj hg
  subst e3
  refine ⟨hb, ?_⟩
  rcases Nat.lt_or_ge g' w.heap.size with h1 | h1
  ·exact h1
  ·rw [Array.getElem?_eq_none h1] at hh; cases hh
theorem OB.beside {w : World} {base : Nat} {e : TypeId} {A : Option Addr} {n c g : Nat} {l : List UInt8} (h : OB w base e A n c l) (hne : own A ≠ some g) (cs' : Array Value) : OB (w.setRow g cs') base e A n c l := by
 refine ⟨h.1, ?_⟩
 rcases h.2 with h0 | ⟨g', cap, cur, hv, hb, hh, r⟩
 ·exact .inl h0
 ·refine .inr ⟨g', cap, cur, hv, hb, ?_, r⟩
  have : g' ≠ g := fun he => hne (by injection hv with e1 _ _; subst e1; subst he; rfl)
  rw [setRow_other w g g' cs' (by exact this)]
  exact hh
section
variable {W W' : World} {base : Nat}
theorem ZO.past {b1 : Nat} {e : TypeId} {z : Nat} {A : Option Addr} {n c : Nat} {R : List (Array Value)} {row : Option Nat} (h : ZO W b1 e z A n c R) (hg : W.grownBy W' row) (hne : own A = none ∨ own A ≠ row) : ZO W' b1 e z A n c R := ⟨World.ownsRow.kept h.1 hg (by rw [own_slice]; exact hne), h.2⟩
theorem ZO.notb {e : TypeId} {z : Nat} {A : Option Addr} {n c g : Nat} {l : List (Array Value)} (h : ZO W base e z A n c l) (hg : g < base) : own A ≠ some g := fun e => by have := h.ge e; omega
end
def RO {α : Type} (K : RK α) (w : World) (base : Nat) (r : Array Value) (a : α) : Prop := ∃ A n c, r = K.cs a (.slice A n c) ∧ OB w base 5 A n c (K.by_ a)
def GR {α : Type} (K : RK α) (w : World) (base : Nat) (e : TypeId) (A : Option Addr) (k c : Nat) (L : List α) : Prop :=
 ∃ R, ZO w base e K.z A k c R ∧ R.length = L.length ∧ ∀ j (h : j < R.length) (h' : j < L.length), RO K w base R[j] L[j]
theorem OB.kindNe {w : World} {base base' : Nat} {e e' : TypeId} {z : Nat} {A A' : Option Addr} {n c n' c' : Nat} {l : List UInt8} {R : List (Array Value)} (h : OB w base e A n c l) (h' : ZO w base' e' z A' n' c' R) (ht : e ≠ e') : own A = none ∨ own A ≠ own A' := by
 rcases h.2 with ⟨hv, _⟩ | ⟨g, cap, cur, hv, _, hh, _⟩
 ·injection hv with e1 _ _
  subst e1
  exact .inl rfl
 ·injection hv with e1 _ _
  subst e1
  refine .inr fun hA => ?_
  rcases h'.1.2 with ⟨hv', _⟩ | ⟨g', cap', cur', hv', _, hh', _⟩
  ·injection hv' with e1 _ _
   subst e1
   cases hA
  ·injection hv' with e1 _ _
   subst e1
   have e3 : g = g' := Option.some.inj hA
   subst e3
   rw [hh] at hh'
   injection hh' with hh'
   injection hh' with _ hh'
   exact ht hh'
theorem OB.passed {w w' : World} {base : Nat} {e : TypeId} {A : Option Addr} {n c : Nat} {l : List UInt8} {row : Option Nat} (h : OB w base e A n c l) (hg : w.grownBy w' row) (hne : own A = none ∨ own A ≠ row) : OB w' base e A n c l := World.ownsRow.kept h hg (by rw [own_slice]; exact hne)
section
variable {α β : Type} {K : RK α} {K' : RK β} {w w' : World} {base : Nat} {e e' : TypeId} {A A' : Option Addr} {k c k' c' : Nat} {L : List α} {L' : List β}
theorem GR.nil (hz : True) : GR K w base e none 0 0 ([] : List α) := ⟨[], ZO.nil, rfl, fun j h => absurd h (by simp)⟩
theorem RO.keep {r : Array Value} {a : α} (h : RO K w base r a) (hg : Grow w w') : RO K w' base r a := by
 obtain ⟨A, n, c, e1, h1⟩ := h
 exact ⟨A, n, c, e1, h1.keep hg⟩
theorem GR.keep (h : GR K w base e A k c L) (hg : Grow w w') : GR K w' base e A k c L := by
 obtain ⟨R, h1, h2, h3⟩ := h
 exact ⟨R, h1.keep hg, h2, fun j a b => (h3 j a b).keep hg⟩
theorem GR.set {g : Nat} (h : GR K w base e A k c L) (hg : g < base) (cs : Array Value) : GR K (w.setRow g cs) base e A k c L := by
 obtain ⟨R, h1, h2, h3⟩ := h
 refine ⟨R, h1.other (h1.notb hg) cs, h2, fun j a b => ?_⟩
 obtain ⟨A, n, c, e1, h4⟩ := h3 j a b
 exact ⟨A, n, c, e1, h4.beside (fun e => by have := (h4.from_ e).1; omega) cs⟩
theorem GR.mono {b : Nat} (h : GR K w base e A k c L) (hb : b ≤ base) : GR K w b e A k c L := by
 obtain ⟨R, h1, h2, h3⟩ := h
 exact ⟨R, h1.mono hb, h2, fun j a b' => by
  obtain ⟨A, n, c, e1, h4⟩ := h3 j a b'
  exact ⟨A, n, c, e1, h4.mono hb⟩⟩
theorem GR.zr (h : GR K w base e A k c L) : ZR K w w.heap.size A k c L := by
 obtain ⟨R, h1, h2, h3⟩ := h
 exact ⟨R, h1.zs, h2, fun j a b => by
  obtain ⟨A, n, c, e1, h4⟩ := h3 j a b
  exact ⟨A, n, c, e1, h4.rb⟩⟩
theorem GR.snoc {A2 : Option Addr} {c2 : Nat} {r : Array Value} {a : α} {R : List (Array Value)} (h1 : ZO w base e K.z A k c R) (h2 : R.length = L.length) (h3 : ∀ j (h : j < R.length) (h' : j < L.length), RO K w base R[j] L[j]) (hr : RO K w base r a) (hu : 5 ≠ e)
  (ho : ZO w' base e K.z A2 (k + 1) c2 (R ++ [r])) (hg : w.grownBy w' (own A)) : GR K w' base e A2 (k + 1) c2 (L ++ [a]) := by
 have key : ∀ {r : Array Value} {a : α}, RO K w base r a → RO K w' base r a := fun h => by
  obtain ⟨A, n, c, e1, h4⟩ := h
  exact ⟨A, n, c, e1, h4.passed hg (h4.kindNe h1 hu)⟩
 refine ⟨R ++ [r], ho, by simp [h2], fun j h h' => ?_⟩
 by_cases hj : j < R.length
 ·have hj' : j < L.length := by rw [← h2]; exact hj
  rw [List.getElem_append_left hj, List.getElem_append_left hj']
  exact key (h3 j hj hj')
 ·have e1 : j = R.length := by simp at h; omega
  subst e1
  have hl : L.length ≤ R.length := by rw [h2]; exact Nat.le_refl _
  rw [List.getElem_append_right (Nat.le_refl _), List.getElem_append_right hl]
  simpa using key hr
end
theorem ZR.one {α : Type} {K : RK α} {w : World} {B g : Nat} {t : TypeId} {a : α} {A : Option Addr} {n c : Nat} (h : Blk w g t (K.cs a (.slice A n c))) (hr : RB w B A n c (K.by_ a)) (hz : (K.cs a (.slice A n c)).size = K.z) (hB : g < B) : ZR K w B (some ⟨g, 0, none⟩) 1 1 [a] :=
 ⟨[K.cs a (.slice A n c)], hz ▸ ZS.one h hB, rfl, fun j h1 h2 => by
  obtain rfl : j = 0 := by simpa using h1
  exact ⟨A, n, c, rfl, hr⟩⟩
theorem kept_row {w W : World} {S : Nat → Prop} {row : Option Nat} (h : w.grownBy W row) (hS : ∀ k, row = some k → ¬ S k) : Kept S w W := ⟨h.size, fun k hk hs => h.block k hk (fun e => hS k e.symm hs)⟩
end Go.Proofs.Ytfbimboemahhhaa
