/-
  The contract of plan.Of: the plan of any model, or what is wrong with it.
-/
import Derived.Test.YthebemikhjglbaaPlLay
import Derived.Test.YthebemikhjglbaaMdCheck
namespace Go.Proofs.Ythebemikhjglbaa
open Go.RowKit

/-- A plan, as plain data. -/
structure PD where
  ph : Nat
  sh : Nat
  sz : Nat
  segs : List Nat
  secs : List Nat
/-- What is wrong with a model, or with its plan (0: nothing). -/
def Md.planC (m : Md) : Nat := if m.chk ≠ 0 then m.chk else if m.eT ≤ 65536 then 0 else 8
def Md.planD (m : Md) : PD := if m.planC = 0 then ⟨m.phoff, m.shoff, m.eT, (List.range m.segs.length).map m.P2, (List.range m.secs.length).map m.P3⟩ else ⟨0, 0, 0, [], []⟩
/-- The cells hold the plan d. -/
def PlanR (d : PD) (w : World) (cs : Array Value) : Prop :=
  ∃ A n c A' n' c', cs = #[.int .u64 (d.ph : Nat), .int .u64 (d.sh : Nat), .int .u64 (d.sz : Nat), .slice A n c, .slice A' n' c'] ∧ NS w w.heap.size .u64 A n c d.segs ∧ NS w w.heap.size .u64 A' n' c' d.secs

theorem NS.none0 (w : World) (B : Nat) (k : IntKind) : NS w B k none 0 0 [] := ⟨rfl, Nat.le_refl _, Nat.zero_le _, fun h => absurd h (by omega)⟩
theorem Row.ns {w : World} {g n : Nat} {f : Nat → Nat} (h : Row w g n f) (hn : n ≤ maxLen) : NS w w.heap.size .u64 (some ⟨g, 0, none⟩) n n ((List.range n).map f) :=
  ⟨by simp, Nat.le_refl _, hn, fun _ => ⟨g, 0, rfl, h.lt, fun j hj => by
    have hj' : j < n := by simpa using hj
    rw [Nat.zero_add, World.rowIs.cell h hj']
    simp [ivl]⟩⟩
theorem plan_none (m : Md) (w : World) (h : m.planC ≠ 0) : PlanR m.planD w #[.int .u64 0, .int .u64 0, .int .u64 0, .slice none 0 0, .slice none 0 0] := by
  unfold Md.planD
  rw [if_neg h]
  exact ⟨none, 0, 0, none, 0, 0, rfl, NS.none0 _ _ _, NS.none0 _ _ _⟩
theorem plan_some (m : Md) (w : World) (h : m.planC = 0) {ga gb n1 n2 : Nat} (l1 : n1 = m.segs.length) (l2 : n2 = m.secs.length) (hn1 : n1 ≤ maxLen) (hn2 : n2 ≤ maxLen) (ra : Row w ga n1 m.P2) (rb : Row w gb n2 m.P3) :
    PlanR m.planD w #[.int .u64 (m.phoff : Nat), .int .u64 (m.shoff : Nat), .int .u64 (m.eT : Nat), .slice (some ⟨ga, 0, none⟩) n1 n1, .slice (some ⟨gb, 0, none⟩) n2 n2] := by
  unfold Md.planD
  rw [if_pos h, ← l1, ← l2]
  exact ⟨_, _, _, _, _, _, rfl, ra.ns hn1, rb.ns hn2⟩

theorem ZR.owns {α : Type} {K : RK α} {w : World} {B n c : Nat} {A : Option Addr} {L : List α} (h : ZR K w B A n c L) : ∀ a ∈ L, (K.by_ a).length ≤ maxLen := fun a ha => by
  obtain ⟨R, h1, h2, h3⟩ := h
  obtain ⟨j, hj, rfl⟩ := List.getElem_of_mem ha
  obtain ⟨A, n, c, e, hr⟩ := h3 j (by omega) hj
  rw [← hr.len]
  exact Nat.le_trans hr.cap hr.max
theorem Md.chk_small {m : Md} (h : m.chk = 0) : m.segs.length ≤ 16 ∧ m.secs.length ≤ 64 := by
  unfold Md.chk at h
  split at h
  · omega
  · rename_i h1
    unfold Md.large at h1
    simp at h1
    exact h1
theorem Md.seg_sg (m : Md) (k : Nat) : m.seg (k : Int) = m.sg k := rfl
/-- What a place that may be is. -/
theorem Md.may_is {m : Md} {p : Pl} (h : m.may p = true) (hl : ∀ s ∈ m.segs, s.pl.own.length ≤ maxLen) (hp : p.own.length ≤ maxLen) :
    p.size < 9223372036854775808 ∧ (p.inn = -1 ∨ ∃ i : Nat, p.inn = (i : Int) ∧ i < m.segs.length ∧ (m.sg i).typ = 1 ∧ p.off < 9223372036854775808) := by
  unfold maxLen at hl hp
  by_cases h0 : p.inn = -1
  · rw [may_own h0] at h
    unfold Pl.ownMay at h
    simp at h
    exact ⟨by omega, .inl h0⟩
  · rw [may_in h0] at h
    simp only [Bool.and_eq_true, decide_eq_true_eq] at h
    obtain ⟨⟨h1, h2⟩, h3⟩ := h
    obtain ⟨i, hi, hil⟩ := isSegN_true h1
    rw [hi, m.seg_sg] at h2 h3
    unfold Pl.inMay Pl.within at h3
    simp at h3
    have hmem : m.sg i ∈ m.segs := by
      unfold Md.sg
      rw [List.getD_eq_getElem?_getD, List.getElem?_eq_getElem hil]
      exact List.getElem_mem hil
    have := hl _ hmem
    exact ⟨by omega, .inr ⟨i, hi, hil, h2, by omega⟩⟩
theorem Md.sg_mem (m : Md) {k : Nat} (h : k < m.segs.length) : m.sg k ∈ m.segs := by
  unfold Md.sg
  rw [List.getD_eq_getElem?_getD, List.getElem?_eq_getElem h]
  exact List.getElem_mem h
theorem Md.se_mem (m : Md) {k : Nat} (h : k < m.secs.length) : m.se k ∈ m.secs := by
  unfold Md.se
  rw [List.getD_eq_getElem?_getD, List.getElem?_eq_getElem h]
  exact List.getElem_mem h
theorem Md.segC_ones {m : Md} {s : Sg} (h : m.segC s = 0) : ones s.align ≤ 1 := by
  unfold Md.segC at h
  split at h
  · omega
  · omega
theorem Md.segC_may {m : Md} {s : Sg} (h : m.segC s = 0) : m.may s.pl = true := by
  unfold Md.segC at h
  split at h
  · omega
  split at h
  · omega
  · rename_i h1 h2
    simpa using h2
theorem plan_ok {m : Md} (ok : m.Ok) (h : m.chk = 0) (hl : ∀ s ∈ m.segs, s.pl.own.length ≤ maxLen) (hl2 : ∀ s ∈ m.secs, s.pl.own.length ≤ maxLen) : PlOk m := by
  obtain ⟨h1, h2⟩ := Md.chk_small h
  obtain ⟨z1, z2, z3⟩ := Md.chk_zero h
  refine ⟨h1, h2, fun k hk => ?_, fun k hk => ?_, fun k hk => ?_⟩
  · have hm := m.sg_mem hk
    obtain ⟨a, b⟩ := Md.may_is (Md.segC_may (z1 _ hm)) hl (hl _ hm)
    exact ⟨(ok.segs _ hm).align, Md.segC_ones (z1 _ hm), a, fun _ => b⟩
  · have hm := m.se_mem hk
    obtain ⟨a, b⟩ := Md.may_is (Md.secC_zero (z3 _ hm)).1 hl (hl2 _ hm)
    rcases b with b | ⟨i, b1, b2, b3, b4⟩
    · exact .inl b
    · refine .inr ⟨i, b1, b2, ?_⟩
      have e : m.P2 i = m.P1 i := by unfold Md.P2; rw [if_pos b3]
      have := m.P1_le i
      omega
  · have hm := m.se_mem hk
    exact (Md.may_is (Md.secC_zero (z3 _ hm)).1 hl (hl2 _ hm)).1

/-- A plan's cell, and an error beside it. -/
theorem of_ret {K : Ending → World → Prop} {W : World} {tmps : Array Value} {g : Nat} {cs : Array Value} {ev : Value} (ht : tmps.getD 2 undef = .pointer (some ⟨g, 0, none⟩)) (he : tmps.getD 3 undef = ev)
    (hx : Blk W g 37 cs) (hn : cs.size = 5) (hk : K (.returned (.tuple #[.agg cs, ev])) W) : bodyPost Try.prog Try.f7 K .ret ⟨tmps, []⟩ W := by
  refine bodyPost_ret (v := .tuple #[.agg cs, ev]) ?_ rfl hk
  rw [results_cell_tmp rfl, ht, he]
  simp [asAddr, Result.andThen, hx.var _ _ Try.underlying37 rfl (by rw [hn]; kernel_rfl)]

/-- What plan.Of answers. -/
def OfR (m : Md) (w : World) (e : Ending) (w' : World) : Prop := ∃ cs, e = .returned (.tuple #[.agg cs, eC m.planC]) ∧ PlanR m.planD w' cs ∧ Grow w w'

set_option maxHeartbeats 2000000 in
theorem of_any (m : Md) (ok : m.Ok) (A1 A2 : Option Addr) (n1 c1 n2 c2 : Nat) (w : World) (g1 : ZR sgK w w.heap.size A1 n1 c1 m.segs) (g2 : ZR seK w w.heap.size A2 n2 c2 m.secs) :
    Calls Try.prog 7 #[.agg (mdC m (.slice A1 n1 c1) (.slice A2 n2 c2))] w (OfR m w) := by
  have HC := Lib.hid (fun w' (hg : Grow w w') => check_any m ok A1 A2 n1 c1 n2 c2 w' (g1.grow hg) (g2.grow hg))
  have HL := Lib.hid (fun w' (hg : Grow w w') (h : m.chk = 0) => lay_any m A1 A2 n1 c1 n2 c2 w' (g1.grow hg) (g2.grow hg) (plan_ok ok h g1.owns g2.owns))
  have HS := Lib.hid (fun (w : World) (h : m.planC = 0) (ga gb : Nat) => plan_some m w h (ga := ga) (gb := gb) g1.len g2.len (Nat.le_trans g1.cap g1.max) (Nat.le_trans g2.cap g2.max))
  have HN := Lib.hid (fun (w : World) => plan_none m w)
  have EC : Hid (m.planC = if m.chk ≠ 0 then m.chk else if m.eT ≤ 65536 then 0 else 8) := Lib.hid rfl
  unfold LayR at HL
  obtain ⟨x0, x1, x2, x3, x4, x5, x6, x7, x10, hC⟩ : ∃ x0 x1 x2 x3 x4 x5 x6 x7 x10 : Value, mdC m (.slice A1 n1 c1) (.slice A2 n2 c2) = #[x0, x1, x2, x3, x4, x5, x6, x7, .slice A1 n1 c1, .slice A2 n2 c2, x10] := ⟨_, _, _, _, _, _, _, _, _, rfl⟩
  rw [hC] at HC HL ⊢
  unfold OfR
  generalize m.planD = D at HS HN ⊢
  generalize m.planC = C at HS HN EC ⊢
  generalize m.chk = ck at HC HL EC
  generalize m.eT = et at HL HS EC
  generalize m.phoff = ph at HL HS
  generalize m.shoff = sh at HL HS
  generalize m.P2 = P2 at HL HS
  generalize m.P3 = P3 at HL HS
  clear hC g1 g2 ok
  go_enter Try.func7, Try.ntmps7
  go_wp2_with fail
  generalize hW : World.alloc _ _ = W0
  obtain ⟨b1, b2, hg0⟩ := blk2 hW
  clear hW
  have HM := Lib.hid b1
  have HT := Lib.hid b2
  have HG0 := Lib.hid hg0
  clear b1 b2 hg0
  refine (HC.out _ HG0.out).mono ?_
  rintro e w1 ⟨rfl, hg⟩
  have HG1 : Hid (Grow w w1) := HG0.out.trans hg
  have HM1 := Lib.hid (HM.out.grow hg)
  have HT1 := Lib.hid (HT.out.grow hg)
  clear hg HM HT HG0
  by_cases hck : ck = 0
  · rw [hck, eC_zero]
    have EC2 : Hid (C = if et ≤ 65536 then 0 else 8) := Lib.hid (by rw [EC.out, if_neg (by omega)])
    have HL2 := Lib.hid (fun w' hg => HL.out w' hg hck)
    clear hck EC HL HC
    obtain ⟨v0, v1, v2, v3, v4, v5, v6, v7, v8, v9, v10⟩ := HM1.out.c11
    go_wp2_with fail
    clear v0 v1 v2 v3 v4 v5 v6 v7 v8 v9 v10
    refine (HL2.out _ HG1.out).mono ?_
    rintro e w2 ⟨ga, gb, rfl, ra, rb, hn, hg⟩
    have HNa := Lib.hid (show ga ≠ w.heap.size + 1 ∧ gb ≠ w.heap.size + 1 from by have := HT1.out.lt; omega)
    have HG2 : Hid (Grow w w2) := HG1.out.trans hg
    have HT2 := Lib.hid (HT1.out.grow hg)
    have HA := Lib.hid ra
    have HB := Lib.hid rb
    have HT3 := Lib.hid (Blk.alloc HT2.out (.cells #[.int .u64 (ph : Nat), .int .u64 (sh : Nat), .int .u64 (et : Nat), .slice (some ⟨ga, 0, none⟩) n1 n1, .slice (some ⟨gb, 0, none⟩) n2 n2] 37))
    have s0 := HT3.out.soft 0
    have r0 := HT3.out.at 0
    have s1 := HT3.out.soft 1
    have r1 := HT3.out.at 1
    have s2 := HT3.out.soft 2
    have r2 := HT3.out.at 2
    have s3 := HT3.out.soft 3
    have r3 := HT3.out.at 3
    have s4 := HT3.out.soft 4
    have r4 := HT3.out.at 4
    have hne : ¬ (w.heap.size + 1 = w2.heap.size) := by have := HT2.out.lt; omega
    clear hg ra rb hn HM1 HT1 HG1
    by_cases he : et ≤ 65536
    · have d : decide (65536 < et) = false := decide_eq_false (by omega)
      have d' : decide ((65536 : Int) < (et : Int)) = false := decide_eq_false (by omega)
      have EC3 := Lib.hid (show C = 0 by rw [EC2.out, if_pos he])
      clear he
      go_wp2
      have hal := Grow.of_alloc w2 (.cells #[.int .u64 (ph : Nat), .int .u64 (sh : Nat), .int .u64 (et : Nat), .slice (some ⟨ga, 0, none⟩) n1 n1, .slice (some ⟨gb, 0, none⟩) n2 n2] 37)
      have HX := Lib.hid (put5 (Blk.alloc HT2.out (.cells #[.int .u64 (ph : Nat), .int .u64 (sh : Nat), .int .u64 (et : Nat), .slice (some ⟨ga, 0, none⟩) n1 n1, .slice (some ⟨gb, 0, none⟩) n2 n2] 37)) (.int .u64 (ph : Nat)) (.int .u64 (sh : Nat)) (.int .u64 (et : Nat)) (.slice (some ⟨ga, 0, none⟩) n1 n1) (.slice (some ⟨gb, 0, none⟩) n2 n2))
      have HG3 : Hid (Grow w (w2.alloc (.cells #[.int .u64 (ph : Nat), .int .u64 (sh : Nat), .int .u64 (et : Nat), .slice (some ⟨ga, 0, none⟩) n1 n1, .slice (some ⟨gb, 0, none⟩) n2 n2] 37))) := HG2.out.trans hal
      have hk := grown_trans (grown_grow hal (some (w.heap.size + 1))) HX.out.2
      refine of_ret (ev := .nilIface) rfl rfl HX.out.1 rfl ?_
      exact ⟨_, by rw [EC3.out, eC_zero], HS.out _ EC3.out ga gb (HA.out.grownBy hk (fun e => HNa.out.1 (Option.some.inj e))) (HB.out.grownBy hk (fun e => HNa.out.2 (Option.some.inj e))), below_line HG3.out HX.out.2 HG3.out.size (by omega)⟩
    · have d : decide (65536 < et) = true := decide_eq_true (by omega)
      have d' : decide ((65536 : Int) < (et : Int)) = true := decide_eq_true (by omega)
      have EC3 := Lib.hid (show C = 8 by rw [EC2.out, if_neg he])
      clear he
      go_wp2
      have hal := Grow.of_alloc w2 (.cells #[.int .u64 (ph : Nat), .int .u64 (sh : Nat), .int .u64 (et : Nat), .slice (some ⟨ga, 0, none⟩) n1 n1, .slice (some ⟨gb, 0, none⟩) n2 n2] 37)
      have HX := Lib.hid (put5 (Blk.alloc HT2.out (.cells #[.int .u64 (ph : Nat), .int .u64 (sh : Nat), .int .u64 (et : Nat), .slice (some ⟨ga, 0, none⟩) n1 n1, .slice (some ⟨gb, 0, none⟩) n2 n2] 37)) (.int .u64 0) (.int .u64 0) (.int .u64 0) (.slice none 0 0) (.slice none 0 0))
      have HG3 : Hid (Grow w (w2.alloc (.cells #[.int .u64 (ph : Nat), .int .u64 (sh : Nat), .int .u64 (et : Nat), .slice (some ⟨ga, 0, none⟩) n1 n1, .slice (some ⟨gb, 0, none⟩) n2 n2] 37))) := HG2.out.trans hal
      refine of_ret (ev := .iface 61 (.int .i64 8)) rfl rfl HX.out.1 rfl ?_
      exact ⟨_, by rw [EC3.out, eC_some (by decide)]; rfl, HN.out _ (by rw [EC3.out]; decide), below_line HG3.out HX.out.2 HG3.out.size (by omega)⟩
  · have EC2 : Hid (C = ck) := Lib.hid (by rw [EC.out, if_pos hck])
    have HNE := Lib.hid hck
    rw [eC_some hck]
    have s0 := HT1.out.soft 0
    have s1 := HT1.out.soft 1
    have s2 := HT1.out.soft 2
    have s3 := HT1.out.soft 3
    have s4 := HT1.out.soft 4
    have r0 := HT1.out.at 0
    have r1 := HT1.out.at 1
    have r2 := HT1.out.at 2
    have r3 := HT1.out.at 3
    have r4 := HT1.out.at 4
    clear hck EC HL HC
    go_wp2
    have HX := Lib.hid (put5 HT1.out (.int .u64 0) (.int .u64 0) (.int .u64 0) (.slice none 0 0) (.slice none 0 0))
    refine of_ret (ev := .iface 61 (.int .i64 (ck : Int))) rfl rfl HX.out.1 rfl ?_
    exact ⟨_, by rw [EC2.out, eC_some HNE.out], HN.out _ (by rw [EC2.out]; exact HNE.out), below_line HG1.out HX.out.2 HG1.out.size (by omega)⟩
end Go.Proofs.Ythebemikhjglbaa
