/-
  Several texts in one: The contract of plan; In a plan that ends in the file nothing stands in one place with another thing, and all is in the file; A model that may be planned; Plain answers of layer 3, and the contracts of ident; A region that draws its order, in which all that reads may be taken first, and what is left (a new block, stores, assignments) comes in one order; and results that lie in memory.
-/
import Derived.Test.YtfbimboemahhhaaGreatDoorTfG6
import Derived.Test.YtfbimboemahhhaaGreatDoorTfG9
import Derived.Test.YtfbimboemahhhaaGreatDoorRows
import Derived.Test.YtfbimboemahhhaaGreatDoorTfG2
import Derived.Test.YtfbimboemahhhaaGreatDoorTfG1
import Derived.WalkKit
import Derived.BigQuiet
import Derived.Deep.QuietTactic
import Derived.Lib.Hide
import Derived.Laws.ResultCell
namespace Go.Proofs.YtfbimboemahhhaaGreatDoor
open Go.Lib (hid)
open Go.RowKit
structure PD where
 ph : Nat
 sh : Nat
 sz : Nat
 segs : List Nat
 secs : List Nat
def Md.planC (m : Md) : Nat := if m.chk ≠ 0 then m.chk else if m.eT ≤ 65536 then 0 else 8
def Md.planD (m : Md) : PD := if m.planC = 0 then ⟨m.phoff, m.shoff, m.eT, (List.range m.segs.length).map m.P2, (List.range m.secs.length).map m.P3⟩ else ⟨0, 0, 0, [], []⟩
def PlanR (d : PD) (w : World) (cs : Array Value) : Prop :=
 ∃ A n c A' n' c', cs = #[.int .u64 (d.ph : Nat), .int .u64 (d.sh : Nat), .int .u64 (d.sz : Nat), .slice A n c, .slice A' n' c'] ∧ NS w w.heap.size .u64 A n c d.segs ∧ NS w w.heap.size .u64 A' n' c' d.secs
theorem NS.none0 (w : World) (B : Nat) (k : IntKind) : NS w B k none 0 0 [] := ⟨rfl, Nat.le_refl _, Nat.zero_le _, fun h => absurd h (by omega)⟩
theorem Row.ns {w : World} {g n : Nat} {f : Nat → Nat} (h : Row w g n f) (hn : n ≤ maxLen) : NS w w.heap.size .u64 (some ⟨g, 0, none⟩) n n ((List.range n).map f) :=
 ⟨by simp, Nat.le_refl _, hn, fun _ => ⟨g, 0, rfl, h.lt, fun j hj => by
  have hj' : j < n := by simpa using hj
  rw [Nat.zero_add, World.rowIs.cell h hj']
  simp [ivl]⟩⟩
theorem plan_none (m : Md) (w : World) (h : m.planC ≠ 0) : PlanR m.planD w #[.int .u64 0, .int .u64 0, .int .u64 0, .slice none 0 0, .slice none 0 0] := by
 unfold Md.planD
 rw [if_neg h]
 exact ⟨none, 0, 0, none, 0, 0, rfl, NS.none0 _ _ _, NS.none0 _ _ _⟩
theorem plan_some (m : Md) (w : World) (h : m.planC = 0) {ga gb n1 n2 : Nat} (l1 : n1 = m.segs.length) (l2 : n2 = m.secs.length) (hn1 : n1 ≤ maxLen) (hn2 : n2 ≤ maxLen) (ra : Row w ga n1 m.P2) (rb : Row w gb n2 m.P3) :
  PlanR m.planD w #[.int .u64 (m.phoff : Nat), .int .u64 (m.shoff : Nat), .int .u64 (m.eT : Nat), .slice (some ⟨ga, 0, none⟩) n1 n1, .slice (some ⟨gb, 0, none⟩) n2 n2] := by
 unfold Md.planD
 rw [if_pos h, ← l1, ← l2]
 exact ⟨_, _, _, _, _, _, rfl, ra.ns hn1, rb.ns hn2⟩
theorem ZR.owns {α : Type} {K : RK α} {w : World} {B n c : Nat} {A : Option Addr} {L : List α} (h : ZR K w B A n c L) : ∀ a ∈ L, (K.by_ a).length ≤ maxLen := fun a ha => by
 obtain ⟨R, h1, h2, h3⟩ := h
 obtain ⟨j, hj, rfl⟩ := List.getElem_of_mem ha
 obtain ⟨A, n, c, e, hr⟩ := h3 j (by omega) hj
 rw [← hr.len]
 exact Nat.le_trans hr.cap hr.max
theorem Md.chk_small {m : Md} (h : m.chk = 0) : m.segs.length ≤ 16 ∧ m.secs.length ≤ 64 := by
 unfold Md.chk at h
 split at h
 ·omega
 ·rename_i h1
  unfold Md.large at h1
  simp at h1
  exact h1
theorem Md.seg_sg (m : Md) (k : Nat) : m.seg (k : Int) = m.sg k := rfl
theorem Md.may_is {m : Md} {p : Pl} (h : m.may p = true) (hl : ∀ s ∈ m.segs, s.pl.own.length ≤ maxLen) (hp : p.own.length ≤ maxLen) :
  p.size < 9223372036854775808 ∧ (p.inn = -1 ∨ ∃ i : Nat, p.inn = (i : Int) ∧ i < m.segs.length ∧ (m.sg i).typ = 1 ∧ p.off < 9223372036854775808) := by
 unfold maxLen at hl hp
 by_cases h0 : p.inn = -1
 ·rw [may_own h0] at h
  unfold Pl.ownMay at h
  simp at h
  exact ⟨by omega, .inl h0⟩
 ·rw [may_in h0] at h
  simp only [Bool.and_eq_true, decide_eq_true_eq] at h
  obtain ⟨⟨h1, h2⟩, h3⟩ := h
  obtain ⟨i, hi, hil⟩ := isSegN_true h1
  rw [hi, m.seg_sg] at h2 h3
  unfold Pl.inMay Pl.within at h3
  simp at h3
  have hmem : m.sg i ∈ m.segs := by
   unfold Md.sg
   rw [List.getD_eq_getElem?_getD, List.getElem?_eq_getElem hil]
   exact List.getElem_mem hil
  have := hl _ hmem
  exact ⟨by omega, .inr ⟨i, hi, hil, h2, by omega⟩⟩
theorem Md.sg_mem (m : Md) {k : Nat} (h : k < m.segs.length) : m.sg k ∈ m.segs := by
 unfold Md.sg
 rw [List.getD_eq_getElem?_getD, List.getElem?_eq_getElem h]
 exact List.getElem_mem h
theorem Md.se_mem (m : Md) {k : Nat} (h : k < m.secs.length) : m.se k ∈ m.secs := by
 unfold Md.se
 rw [List.getD_eq_getElem?_getD, List.getElem?_eq_getElem h]
 exact List.getElem_mem h
theorem Md.segC_ones {m : Md} {s : Sg} (h : m.segC s = 0) : ones s.align ≤ 1 := by
 unfold Md.segC at h
 split at h
 ·omega
 ·omega
theorem Md.segC_may {m : Md} {s : Sg} (h : m.segC s = 0) : m.may s.pl = true := by
 unfold Md.segC at h
 split at h
 ·omega
 split at h
 ·omega
 ·rename_i h1 h2
  simpa using h2
theorem plan_ok {m : Md} (ok : m.Ok) (h : m.chk = 0) (hl : ∀ s ∈ m.segs, s.pl.own.length ≤ maxLen) (hl2 : ∀ s ∈ m.secs, s.pl.own.length ≤ maxLen) : PlOk m := by
 obtain ⟨h1, h2⟩ := Md.chk_small h
 obtain ⟨z1, z2, z3⟩ := Md.chk_zero h
 refine ⟨h1, h2, fun k hk => ?_, fun k hk => ?_, fun k hk => ?_⟩
 ·have hm := m.sg_mem hk
  obtain ⟨a, b⟩ := Md.may_is (Md.segC_may (z1 _ hm)) hl (hl _ hm)
  exact ⟨(ok.segs _ hm).align, Md.segC_ones (z1 _ hm), a, fun _ => b⟩
 ·have hm := m.se_mem hk
  obtain ⟨a, b⟩ := Md.may_is (Md.secC_zero (z3 _ hm)).1 hl (hl2 _ hm)
  rcases b with b | ⟨i, b1, b2, b3, b4⟩
  ·exact .inl b
  ·refine .inr ⟨i, b1, b2, ?_⟩
   have e : m.P2 i = m.P1 i := by unfold Md.P2; rw [if_pos b3]
   have := m.P1_le i
   omega
 ·have hm := m.se_mem hk
  exact (Md.may_is (Md.secC_zero (z3 _ hm)).1 hl (hl2 _ hm)).1
theorem of_ret {K : Ending → World → Prop} {W : World} {tmps : Array Value} {g : Nat} {cs : Array Value} {ev : Value} (ht : tmps.getD 2 undef = .pointer (some ⟨g, 0, none⟩)) (he : tmps.getD 3 undef = ev)
  (hx : Blk W g 104 cs) (hn : cs.size = 5) (hk : K (.returned (.tuple #[.agg cs, ev])) W) : bodyPost Tryz.prog Tryz.f38 K .ret ⟨tmps, []⟩ W := by
 refine bodyPost_ret (v := .tuple #[.agg cs, ev]) ?_ rfl hk
 rw [results_cell_tmp rfl, ht, he]
 simp [asAddr, Result.andThen, hx.var _ _ Tryz.underlying104 rfl (by rw [hn]; kernel_rfl)]
def OfR (m : Md) (w : World) (e : Ending) (w' : World) : Prop := ∃ cs, e = .returned (.tuple #[.agg cs, eC m.planC]) ∧ PlanR m.planD w' cs ∧ Grow w w'
set_option maxHeartbeats 2000000 in
theorem of_any (m : Md) (ok : m.Ok) (A1 A2 : Option Addr) (n1 c1 n2 c2 : Nat) (w : World) (g1 : ZR sgK w w.heap.size A1 n1 c1 m.segs) (g2 : ZR seK w w.heap.size A2 n2 c2 m.secs) :
  Calls Tryz.prog 38 #[.agg (mdC m (.slice A1 n1 c1) (.slice A2 n2 c2))] w (OfR m w) := by
 have HC := hid (fun w' (hg : Grow w w') => check_any m ok A1 A2 n1 c1 n2 c2 w' (g1.grow hg) (g2.grow hg))
 have HL := hid (fun w' (hg : Grow w w') (h : m.chk = 0) => lay_any m A1 A2 n1 c1 n2 c2 w' (g1.grow hg) (g2.grow hg) (plan_ok ok h g1.owns g2.owns))
 have HS := hid (fun (w : World) (h : m.planC = 0) (ga gb : Nat) => plan_some m w h (ga := ga) (gb := gb) g1.len g2.len (Nat.le_trans g1.cap g1.max) (Nat.le_trans g2.cap g2.max))
 have HN := hid (fun (w : World) => plan_none m w)
 have EC : Hid (m.planC = if m.chk ≠ 0 then m.chk else if m.eT ≤ 65536 then 0 else 8) := hid rfl
 unfold LayR at HL
 obtain ⟨x0, x1, x2, x3, x4, x5, x6, x7, x10, hC⟩ : ∃ x0 x1 x2 x3 x4 x5 x6 x7 x10 : Value, mdC m (.slice A1 n1 c1) (.slice A2 n2 c2) = #[x0, x1, x2, x3, x4, x5, x6, x7, .slice A1 n1 c1, .slice A2 n2 c2, x10] := ⟨_, _, _, _, _, _, _, _, _, rfl⟩
 rw [hC] at HC HL ⊢
 unfold OfR
 generalize m.planD = D at HS HN ⊢
 generalize m.planC = C at HS HN EC ⊢
 generalize m.chk = ck at HC HL EC
 generalize m.eT = et at HL HS EC
 generalize m.phoff = ph at HL HS
 generalize m.shoff = sh at HL HS
 generalize m.P2 = P2 at HL HS
 generalize m.P3 = P3 at HL HS
 clear hC g1 g2 ok
 go_enter Tryz.func38, Tryz.ntmps38
 go_wp2_with fail
 generalize hW : World.alloc _ _ = W0
 obtain ⟨b1, b2, hg0⟩ := blk2 hW
 clear hW
 have HM := hid b1
 have HT := hid b2
 have HG0 := hid hg0
 clear b1 b2 hg0
 refine (HC.out _ HG0.out).mono ?_
 rintro e w1 ⟨rfl, hg⟩
 have HG1 : Hid (Grow w w1) := HG0.out.trans hg
 have HM1 := hid (HM.out.grow hg)
 have HT1 := hid (HT.out.grow hg)
 clear hg HM HT HG0
 by_cases hck : ck = 0
 ·rw [hck, eC_zero]
  have EC2 : Hid (C = if et ≤ 65536 then 0 else 8) := hid (by rw [EC.out, if_neg (by omega)])
  have HL2 := hid (fun w' hg => HL.out w' hg hck)
  clear hck EC HL HC
  obtain ⟨v0, v1, v2, v3, v4, v5, v6, v7, v8, v9, v10⟩ := HM1.out.c11
  go_wp2_with fail
  clear v0 v1 v2 v3 v4 v5 v6 v7 v8 v9 v10
  refine (HL2.out _ HG1.out).mono ?_
  rintro e w2 ⟨ga, gb, rfl, ra, rb, hn, hg⟩
  have HNa := hid (show ga ≠ w.heap.size + 1 ∧ gb ≠ w.heap.size + 1 from by have := HT1.out.lt; omega)
  have HG2 : Hid (Grow w w2) := HG1.out.trans hg
  have HT2 := hid (HT1.out.grow hg)
  have HA := hid ra
  have HB := hid rb
  have HT3 := hid (Blk.alloc HT2.out (.cells #[.int .u64 (ph : Nat), .int .u64 (sh : Nat), .int .u64 (et : Nat), .slice (some ⟨ga, 0, none⟩) n1 n1, .slice (some ⟨gb, 0, none⟩) n2 n2] 104))
  have s0 := HT3.out.soft 0
  have r0 := HT3.out.at 0
  have s1 := HT3.out.soft 1
  have r1 := HT3.out.at 1
  have s2 := HT3.out.soft 2
  have r2 := HT3.out.at 2
  have s3 := HT3.out.soft 3
  have r3 := HT3.out.at 3
  have s4 := HT3.out.soft 4
  have r4 := HT3.out.at 4
  have hne : ¬ (w.heap.size + 1 = w2.heap.size) := by have := HT2.out.lt; omega
  clear hg ra rb hn HM1 HT1 HG1
  by_cases he : et ≤ 65536
  ·have d : decide (65536 < et) = false := decide_eq_false (by omega)
   have d' : decide ((65536 : Int) < (et : Int)) = false := decide_eq_false (by omega)
   have EC3 := hid (show C = 0 by rw [EC2.out, if_pos he])
   clear he
   go_wp2
   have hal := Grow.of_alloc w2 (.cells #[.int .u64 (ph : Nat), .int .u64 (sh : Nat), .int .u64 (et : Nat), .slice (some ⟨ga, 0, none⟩) n1 n1, .slice (some ⟨gb, 0, none⟩) n2 n2] 104)
   have HX := hid (put5 (Blk.alloc HT2.out (.cells #[.int .u64 (ph : Nat), .int .u64 (sh : Nat), .int .u64 (et : Nat), .slice (some ⟨ga, 0, none⟩) n1 n1, .slice (some ⟨gb, 0, none⟩) n2 n2] 104)) (.int .u64 (ph : Nat)) (.int .u64 (sh : Nat)) (.int .u64 (et : Nat)) (.slice (some ⟨ga, 0, none⟩) n1 n1) (.slice (some ⟨gb, 0, none⟩) n2 n2))
   have HG3 : Hid (Grow w (w2.alloc (.cells #[.int .u64 (ph : Nat), .int .u64 (sh : Nat), .int .u64 (et : Nat), .slice (some ⟨ga, 0, none⟩) n1 n1, .slice (some ⟨gb, 0, none⟩) n2 n2] 104))) := HG2.out.trans hal
   have hk := grown_trans (grown_grow hal (some (w.heap.size + 1))) HX.out.2
   refine of_ret (ev := .nilIface) rfl rfl HX.out.1 rfl ?_
   exact ⟨_, by rw [EC3.out, eC_zero], HS.out _ EC3.out ga gb (HA.out.grownBy hk (fun e => HNa.out.1 (Option.some.inj e))) (HB.out.grownBy hk (fun e => HNa.out.2 (Option.some.inj e))), below_line HG3.out HX.out.2 HG3.out.size (by omega)⟩
  ·have d : decide (65536 < et) = true := decide_eq_true (by omega)
   have d' : decide ((65536 : Int) < (et : Int)) = true := decide_eq_true (by omega)
   have EC3 := hid (show C = 8 by rw [EC2.out, if_neg he])
   clear he
   go_wp2
   have hal := Grow.of_alloc w2 (.cells #[.int .u64 (ph : Nat), .int .u64 (sh : Nat), .int .u64 (et : Nat), .slice (some ⟨ga, 0, none⟩) n1 n1, .slice (some ⟨gb, 0, none⟩) n2 n2] 104)
   have HX := hid (put5 (Blk.alloc HT2.out (.cells #[.int .u64 (ph : Nat), .int .u64 (sh : Nat), .int .u64 (et : Nat), .slice (some ⟨ga, 0, none⟩) n1 n1, .slice (some ⟨gb, 0, none⟩) n2 n2] 104)) (.int .u64 0) (.int .u64 0) (.int .u64 0) (.slice none 0 0) (.slice none 0 0))
   have HG3 : Hid (Grow w (w2.alloc (.cells #[.int .u64 (ph : Nat), .int .u64 (sh : Nat), .int .u64 (et : Nat), .slice (some ⟨ga, 0, none⟩) n1 n1, .slice (some ⟨gb, 0, none⟩) n2 n2] 104))) := HG2.out.trans hal
   refine of_ret (ev := .iface 86 (.int .i64 8)) rfl rfl HX.out.1 rfl ?_
   exact ⟨_, by rw [EC3.out, eC_some (by decide)]; rfl, HN.out _ (by rw [EC3.out]; decide), below_line HG3.out HX.out.2 HG3.out.size (by omega)⟩
 ·have EC2 : Hid (C = ck) := hid (by rw [EC.out, if_pos hck])
  have HNE := hid hck
  rw [eC_some hck]
  have s0 := HT1.out.soft 0
  have s1 := HT1.out.soft 1
  have s2 := HT1.out.soft 2
  have s3 := HT1.out.soft 3
  have s4 := HT1.out.soft 4
  have r0 := HT1.out.at 0
  have r1 := HT1.out.at 1
  have r2 := HT1.out.at 2
  have r3 := HT1.out.at 3
  have r4 := HT1.out.at 4
  clear hck EC HL HC
  go_wp2
  have HX := hid (put5 HT1.out (.int .u64 0) (.int .u64 0) (.int .u64 0) (.slice none 0 0) (.slice none 0 0))
  refine of_ret (ev := .iface 86 (.int .i64 (ck : Int))) rfl rfl HX.out.1 rfl ?_
  exact ⟨_, by rw [EC2.out, eC_some HNE.out], HN.out _ (by rw [EC2.out]; exact HNE.out), below_line HG1.out HX.out.2 HG1.out.size (by omega)⟩
end Go.Proofs.YtfbimboemahhhaaGreatDoor
namespace Go.Proofs.YtfbimboemahhhaaGreatDoor
open Go.Lib (hid)
namespace Md
variable (m : Md)
theorem eL_step (h : m.segs.length ≤ 16) (k : Nat) : m.eL k ≤ m.eL (k + 1) := by
 rw [eL]
 split
 ·exact fin_ge (m.eL_le h k)
 ·exact Nat.le_refl _
theorem eO_step (h : m.segs.length ≤ 16) (k : Nat) : m.eO k ≤ m.eO (k + 1) := by
 rw [eO]
 split
 ·exact Nat.le_refl _
 split
 ·exact fin_ge (m.eO_le h k)
 ·exact Nat.le_refl _
theorem eS_step (h : m.segs.length ≤ 16) (k : Nat) : m.eS k ≤ m.eS (k + 1) := by
 rw [eS]
 split
 ·exact fin_ge (m.eS_le h k)
 ·exact Nat.le_refl _
end Md
theorem mono_of {f : Nat → Nat} (h : ∀ k, f k ≤ f (k + 1)) {a b : Nat} (hab : a ≤ b) : f a ≤ f b := by
 induction b with
 | zero => rw [show a = 0 by omega]; exact Nat.le_refl _
 | succ b ih =>
  rcases Nat.lt_or_ge a (b + 1) with h1 | h1
  ·exact Nat.le_trans (ih (by omega)) (h b)
  ·rw [show a = b + 1 by omega]; exact Nat.le_refl _
structure Planned (m : Md) : Prop where
 ok : PlOk m
 load : ∀ k, k < m.segs.length → (m.sg k).typ = 1 → (m.sg k).pl.inn = -1
 fits : m.eT ≤ 65536
theorem Planned.eS_in {m : Md} (h : Planned m) {k : Nat} (hk : k ≤ m.secs.length) : m.eS k ≤ 65536 := by
 have h1 := h.fits
 have h2 : m.eS k ≤ m.eS m.secs.length := mono_of (m.eS_step h.ok.n1) hk
 have h3 : m.eS m.secs.length ≤ m.eT := by
  unfold Md.eT
  split
  ·exact fin_ge (m.eS_le h.ok.n1 _)
  ·exact Nat.le_refl _
 omega
theorem Planned.eO_in {m : Md} (h : Planned m) {k : Nat} (hk : k ≤ m.segs.length) : m.eO k ≤ m.eO m.segs.length ∧ m.eO m.segs.length ≤ 65536 := by
 have h1 := h.eS_in (k := 0) (by omega)
 exact ⟨mono_of (m.eO_step h.ok.n1) hk, h1⟩
theorem Planned.eL_in {m : Md} (h : Planned m) {k : Nat} (hk : k ≤ m.segs.length) : m.eL k ≤ m.eL m.segs.length ∧ m.eL m.segs.length ≤ 65536 := by
 have h1 := (h.eO_in (k := 0) (by omega))
 have h2 : m.eO 0 = m.eL m.segs.length := rfl
 exact ⟨mono_of (m.eL_step h.ok.n1) hk, by omega⟩
theorem Planned.load_at {m : Md} (h : Planned m) {k : Nat} (hk : k < m.segs.length) (ht : (m.sg k).typ = 1) : m.eL k ≤ m.P2 k ∧ m.P2 k + (m.sg k).pl.size = m.eL (k + 1) ∧ m.P2 k = nxt (m.eL k) (m.sg k).vaddr (m.sg k).align := by
 have h1 := h.eL_in (k := k + 1) hk
 have e : m.eL (k + 1) = fin (m.eL k) (m.sg k).vaddr (m.sg k).align (m.sg k).pl.size := by rw [Md.eL, if_pos ht]
 have hin := fin_in (e := m.eL k) (v := (m.sg k).vaddr) (a := (m.sg k).align) (n := (m.sg k).pl.size) (by rw [← e]; omega)
 have e2 : m.P2 k = plc (m.eL k) (m.sg k).vaddr (m.sg k).align := by unfold Md.P2 Md.P1; rw [if_pos ht, if_pos ht]
 rw [e2, e]
 exact ⟨hin.2.2.2, hin.2.2.1, hin.1⟩
theorem Planned.other_at {m : Md} (h : Planned m) {k : Nat} (hk : k < m.segs.length) (ht : (m.sg k).typ ≠ 1) (hi : (m.sg k).pl.inn = -1) : m.eO k ≤ m.P2 k ∧ m.P2 k + (m.sg k).pl.size = m.eO (k + 1) := by
 have h1 := h.eO_in (k := k + 1) hk
 have e : m.eO (k + 1) = fin (m.eO k) 0 8 (m.sg k).pl.size := by rw [Md.eO, if_neg ht, if_pos hi]
 have hin := fin_in (e := m.eO k) (v := 0) (a := 8) (n := (m.sg k).pl.size) (by rw [← e]; omega)
 have e2 : m.P2 k = plc (m.eO k) 0 8 := by unfold Md.P2; rw [if_neg ht, if_pos hi]
 rw [e2, e]
 exact ⟨hin.2.2.2, hin.2.2.1⟩
theorem Planned.sec_at {m : Md} (h : Planned m) {k : Nat} (hk : k < m.secs.length) (hi : (m.se k).pl.inn = -1) : m.eS k ≤ m.P3 k ∧ m.P3 k + (m.se k).pl.size = m.eS (k + 1) := by
 have h1 := h.eS_in (k := k + 1) hk
 have e : m.eS (k + 1) = fin (m.eS k) 0 8 (m.se k).pl.size := by rw [Md.eS, if_pos hi]
 have hin := fin_in (e := m.eS k) (v := 0) (a := 8) (n := (m.se k).pl.size) (by rw [← e]; exact h1)
 have e2 : m.P3 k = plc (m.eS k) 0 8 := by unfold Md.P3; rw [if_pos hi]
 rw [e2, e]
 exact ⟨hin.2.2.2, hin.2.2.1⟩
theorem Planned.order {m : Md} (h : Planned m) : hSize m.wide ≤ m.e1 ∧ m.e1 ≤ m.eL m.segs.length ∧ m.eL m.segs.length ≤ m.eO m.segs.length ∧ m.eO m.segs.length = m.eS 0 ∧ m.eS 0 ≤ m.eS m.secs.length ∧ m.eS m.secs.length ≤ m.eT := by
 have a : m.eL 0 ≤ m.eL m.segs.length := mono_of (m.eL_step h.ok.n1) (by omega)
 have b : m.eO 0 ≤ m.eO m.segs.length := mono_of (m.eO_step h.ok.n1) (by omega)
 have c : m.eS 0 ≤ m.eS m.secs.length := mono_of (m.eS_step h.ok.n1) (by omega)
 have d : m.eS m.secs.length ≤ m.eT := by
  unfold Md.eT
  split
  ·exact fin_ge (m.eS_le h.ok.n1 _)
  ·exact Nat.le_refl _
 exact ⟨Nat.le_add_right _ _, a, b, rfl, c, d⟩
end Go.Proofs.YtfbimboemahhhaaGreatDoor
namespace Go.Proofs.YtfbimboemahhhaaGreatDoor
open Go.Lib (hid)
open Go.RowKit
theorem segC_own {m : Md} {s : Sg} (h : m.segC s = 0) (ht : s.typ = 1) : s.pl.inn = -1 := by
 unfold Md.segC at h
 split at h
 ·omega
 split at h
 ·omega
 split at h
 ·omega
 split at h
 ·omega
 ·rename_i h1
  omega
theorem planned_of {m : Md} (ok : m.Ok) (h : m.planC = 0) (hl : ∀ s ∈ m.segs, s.pl.own.length ≤ maxLen) (hl2 : ∀ s ∈ m.secs, s.pl.own.length ≤ maxLen) : Planned m := by
 unfold Md.planC at h
 split at h
 ·omega
 ·rename_i h1
  have hc : m.chk = 0 := by omega
  split at h
  ·rename_i h2
   exact ⟨plan_ok ok hc hl hl2, fun k hk ht => segC_own ((Md.chk_zero hc).1 _ (m.sg_mem hk)) ht, h2⟩
  ·omega
theorem Planned.seg_in {m : Md} (h : Planned m) {k : Nat} (hk : k < m.segs.length) (hi : (m.sg k).pl.inn ≠ -1) : (m.sg k).typ ≠ 1 ∧ ∃ i : Nat, (m.sg k).pl.inn = (i : Int) ∧ i < m.segs.length ∧ m.P2 k = m.P2 i + (m.sg k).pl.off ∧ m.P2 k < 18446744073709551616 := by
 have ht : (m.sg k).typ ≠ 1 := fun e => hi (h.load k hk e)
 refine ⟨ht, ?_⟩
 rcases (h.ok.sg k hk).pl ht with a | ⟨i, a, b, c, d⟩
 ·exact absurd a hi
 ·have e1 : m.P2 i = m.P1 i := by unfold Md.P2; rw [if_pos c]
  have e2 : m.P2 k = m.P1 i + (m.sg k).pl.off := by unfold Md.P2; rw [if_neg ht, if_neg hi, a]; rfl
  have := m.P1_le i
  exact ⟨i, a, b, by rw [e1, e2], by omega⟩
theorem Planned.sec_in {m : Md} (h : Planned m) {k : Nat} (hk : k < m.secs.length) (hi : (m.se k).pl.inn ≠ -1) : ∃ i : Nat, (m.se k).pl.inn = (i : Int) ∧ i < m.segs.length ∧ m.P3 k = m.P2 i + (m.se k).pl.off ∧ m.P3 k < 18446744073709551616 := by
 rcases h.ok.se k hk with a | ⟨i, a, b, c⟩
 ·exact absurd a hi
 ·have e2 : m.P3 k = m.P2 i + (m.se k).pl.off := by unfold Md.P3; rw [if_neg hi, a]; rfl
  exact ⟨i, a, b, e2, by omega⟩
end Go.Proofs.YtfbimboemahhhaaGreatDoor
namespace Go.Proofs.YtfbimboemahhhaaGreatDoor
open Go.Lib (hid)
open Go.RowKit
def two (b : Bool) : UInt8 := if b then 2 else 1
def idV (wide big : Bool) (o a : UInt8) : Value := .agg #[.bool wide, .bool big, .int .u8 (o.toNat : Int), .int .u8 (a.toNat : Int)]
def idL (wide big : Bool) (o a : UInt8) : List UInt8 := [127, 69, 76, 70, two wide, two big, 1, o, a, 0, 0, 0, 0, 0, 0, 0]
def faultN (k : Nat) (v : UInt8) : Nat :=
 if k < 4 then (if v = [127, 69, 76, 70].getD k 0 then 0 else 3) else if k = 6 then (if v = 1 then 0 else 4) else if v = 1 ∨ v = 2 then 0 else 4
theorem oneOrTwo_any (b : Bool) (w : World) : Calls Tryz.prog 153 #[.bool b] w fun e w' => e = .returned (.int .u8 ((two b).toNat : Int)) ∧ w = w' := by
 cases b
 ·go_enter Tryz.func153, Tryz.ntmps153
  go_wp2
  go_ret
  exact ⟨rfl, rfl⟩
 ·go_enter Tryz.func153, Tryz.ntmps153
  go_wp2
  go_ret
  exact ⟨rfl, rfl⟩
theorem u8_eq {v : UInt8} {n : Nat} (h : n < 256) : v = UInt8.ofNat n ↔ (v.toNat : Int) = n := by
 rw [← UInt8.toNat_inj, UInt8.toNat_ofNat', Nat.mod_eq_of_lt h]
 omega
theorem fault_0 (v : UInt8) (w : World) : Calls Tryz.prog 130 #[.int .i64 0, .int .u8 (v.toNat : Int)] w fun e w' => e = .returned (.int .i64 (faultN 0 v : Nat)) ∧ w = w' := by
 have hm : ((({ data := #[127, 69, 76, 70] } : ByteArray)[0]'(by decide)).toNat : Int) = 127 := rfl
 have c := u8_eq (v := v) (n := 127) (by omega)
 by_cases h : v = 127
 ·have HF := hid (show faultN 0 v = 0 by rw [h]; rfl)
  have hx : (v.toNat : Int) = 127 := c.1 h
  generalize faultN 0 v = y at HF ⊢
  generalize (v.toNat : Int) = x at hx ⊢
  subst hx
  clear c h
  go_enter Tryz.func130, Tryz.ntmps130
  go_wp2
  go_ret
  exact ⟨ret_int (by simp [HF.out]), rfl⟩
 ·have HF := hid (show faultN 0 v = 3 by simp [faultN, h])
  have hx : ((v.toNat : Int) != 127) = true := by simpa using fun e => h (c.2 e)
  generalize faultN 0 v = y at HF ⊢
  generalize (v.toNat : Int) = x at hx ⊢
  clear c h
  go_enter Tryz.func130, Tryz.ntmps130
  go_wp2
  go_ret
  exact ⟨ret_int (by simp [HF.out]), rfl⟩
theorem fault_1 (v : UInt8) (w : World) : Calls Tryz.prog 130 #[.int .i64 1, .int .u8 (v.toNat : Int)] w fun e w' => e = .returned (.int .i64 (faultN 1 v : Nat)) ∧ w = w' := by
 have hm : ((({ data := #[127, 69, 76, 70] } : ByteArray)[1]'(by decide)).toNat : Int) = 69 := rfl
 have c := u8_eq (v := v) (n := 69) (by omega)
 by_cases h : v = 69
 ·have HF := hid (show faultN 1 v = 0 by rw [h]; rfl)
  have hx : (v.toNat : Int) = 69 := c.1 h
  generalize faultN 1 v = y at HF ⊢
  generalize (v.toNat : Int) = x at hx ⊢
  subst hx
  clear c h
  go_enter Tryz.func130, Tryz.ntmps130
  go_wp2
  go_ret
  exact ⟨ret_int (by simp [HF.out]), rfl⟩
 ·have HF := hid (show faultN 1 v = 3 by simp [faultN, h])
  have hx : ((v.toNat : Int) != 69) = true := by simpa using fun e => h (c.2 e)
  generalize faultN 1 v = y at HF ⊢
  generalize (v.toNat : Int) = x at hx ⊢
  clear c h
  go_enter Tryz.func130, Tryz.ntmps130
  go_wp2
  go_ret
  exact ⟨ret_int (by simp [HF.out]), rfl⟩
theorem fault_2 (v : UInt8) (w : World) : Calls Tryz.prog 130 #[.int .i64 2, .int .u8 (v.toNat : Int)] w fun e w' => e = .returned (.int .i64 (faultN 2 v : Nat)) ∧ w = w' := by
 have hm : ((({ data := #[127, 69, 76, 70] } : ByteArray)[2]'(by decide)).toNat : Int) = 76 := rfl
 have c := u8_eq (v := v) (n := 76) (by omega)
 by_cases h : v = 76
 ·have HF := hid (show faultN 2 v = 0 by rw [h]; rfl)
  have hx : (v.toNat : Int) = 76 := c.1 h
  generalize faultN 2 v = y at HF ⊢
  generalize (v.toNat : Int) = x at hx ⊢
  subst hx
  clear c h
  go_enter Tryz.func130, Tryz.ntmps130
  go_wp2
  go_ret
  exact ⟨ret_int (by simp [HF.out]), rfl⟩
 ·have HF := hid (show faultN 2 v = 3 by simp [faultN, h])
  have hx : ((v.toNat : Int) != 76) = true := by simpa using fun e => h (c.2 e)
  generalize faultN 2 v = y at HF ⊢
  generalize (v.toNat : Int) = x at hx ⊢
  clear c h
  go_enter Tryz.func130, Tryz.ntmps130
  go_wp2
  go_ret
  exact ⟨ret_int (by simp [HF.out]), rfl⟩
theorem fault_3 (v : UInt8) (w : World) : Calls Tryz.prog 130 #[.int .i64 3, .int .u8 (v.toNat : Int)] w fun e w' => e = .returned (.int .i64 (faultN 3 v : Nat)) ∧ w = w' := by
 have hm : ((({ data := #[127, 69, 76, 70] } : ByteArray)[3]'(by decide)).toNat : Int) = 70 := rfl
 have c := u8_eq (v := v) (n := 70) (by omega)
 by_cases h : v = 70
 ·have HF := hid (show faultN 3 v = 0 by rw [h]; rfl)
  have hx : (v.toNat : Int) = 70 := c.1 h
  generalize faultN 3 v = y at HF ⊢
  generalize (v.toNat : Int) = x at hx ⊢
  subst hx
  clear c h
  go_enter Tryz.func130, Tryz.ntmps130
  go_wp2
  go_ret
  exact ⟨ret_int (by simp [HF.out]), rfl⟩
 ·have HF := hid (show faultN 3 v = 3 by simp [faultN, h])
  have hx : ((v.toNat : Int) != 70) = true := by simpa using fun e => h (c.2 e)
  generalize faultN 3 v = y at HF ⊢
  generalize (v.toNat : Int) = x at hx ⊢
  clear c h
  go_enter Tryz.func130, Tryz.ntmps130
  go_wp2
  go_ret
  exact ⟨ret_int (by simp [HF.out]), rfl⟩
theorem fault_45 (k : Nat) (v : UInt8) (w : World) (hk : k = 4 ∨ k = 5) : Calls Tryz.prog 130 #[.int .i64 k, .int .u8 (v.toNat : Int)] w fun e w' => e = .returned (.int .i64 (faultN k v : Nat)) ∧ w = w' := by
 have hk1 : ¬ k < 4 := by omega
 have hk2 : ¬ k = 6 := by omega
 have c := u8_eq (v := v) (n := 1) (by omega)
 have c' := u8_eq (v := v) (n := 2) (by omega)
 by_cases h : v = 1
 ·have HF := hid (show faultN k v = 0 by simp [faultN, h, hk1, hk2])
  have hx : (v.toNat : Int) = 1 := c.1 h
  generalize faultN k v = y at HF ⊢
  generalize (v.toNat : Int) = x at hx ⊢
  subst hx
  clear c h c' hk1 hk2
  go_enter Tryz.func130, Tryz.ntmps130
  go_wp2
  go_ret
  exact ⟨ret_int (by simp [HF.out]), rfl⟩
 by_cases h2 : v = 2
 ·have HF := hid (show faultN k v = 0 by simp [faultN, h2, hk1, hk2])
  have hx : (v.toNat : Int) = 2 := c'.1 h2
  generalize faultN k v = y at HF ⊢
  generalize (v.toNat : Int) = x at hx ⊢
  subst hx
  clear c h c' h2 hk1 hk2
  go_enter Tryz.func130, Tryz.ntmps130
  go_wp2
  go_ret
  exact ⟨ret_int (by simp [HF.out]), rfl⟩
 ·have HF := hid (show faultN k v = 4 by simp [faultN, h, h2, hk1, hk2])
  have hx : ((v.toNat : Int) != 1) = true := by simpa using fun e => h (c.2 e)
  have hy : ((v.toNat : Int) != 2) = true := by simpa using fun e => h2 (c'.2 e)
  generalize faultN k v = y at HF ⊢
  generalize (v.toNat : Int) = x at hx hy ⊢
  clear c h c' h2 hk1 hk2
  go_enter Tryz.func130, Tryz.ntmps130
  go_wp2
  go_ret
  exact ⟨ret_int (by simp [HF.out]), rfl⟩
theorem fault_6 (v : UInt8) (w : World) : Calls Tryz.prog 130 #[.int .i64 6, .int .u8 (v.toNat : Int)] w fun e w' => e = .returned (.int .i64 (faultN 6 v : Nat)) ∧ w = w' := by
 have c := u8_eq (v := v) (n := 1) (by omega)
 by_cases h : v = 1
 ·have HF := hid (show faultN 6 v = 0 by simp [faultN, h])
  have hx : (v.toNat : Int) = 1 := c.1 h
  generalize faultN 6 v = y at HF ⊢
  generalize (v.toNat : Int) = x at hx ⊢
  subst hx
  clear c h
  go_enter Tryz.func130, Tryz.ntmps130
  go_wp2
  go_ret
  exact ⟨ret_int (by simp [HF.out]), rfl⟩
 ·have HF := hid (show faultN 6 v = 4 by simp [faultN, h])
  have hx : ((v.toNat : Int) != 1) = true := by simpa using fun e => h (c.2 e)
  generalize faultN 6 v = y at HF ⊢
  generalize (v.toNat : Int) = x at hx ⊢
  clear c h
  go_enter Tryz.func130, Tryz.ntmps130
  go_wp2
  go_ret
  exact ⟨ret_int (by simp [HF.out]), rfl⟩
theorem fault_any (k : Nat) (v : UInt8) (w : World) (hk : k < 7) : Calls Tryz.prog 130 #[.int .i64 k, .int .u8 (v.toNat : Int)] w fun e w' => e = .returned (.int .i64 (faultN k v : Nat)) ∧ w = w' := by
 match k, hk with
 | 0, _ => exact fault_0 v w
 | 1, _ => exact fault_1 v w
 | 2, _ => exact fault_2 v w
 | 3, _ => exact fault_3 v w
 | 4, _ => exact fault_45 4 v w (.inl rfl)
 | 5, _ => exact fault_45 5 v w (.inr rfl)
 | 6, _ => exact fault_6 v w
end Go.Proofs.YtfbimboemahhhaaGreatDoor
namespace Go.Proofs.YtfbimboemahhhaaGreatDoor
open Go.Lib (hid)
open Go.RowKit
def But (g : Nat) (w W : World) : Prop := ∀ p : Addr, p.block ≠ g → p.block < w.heap.size → W.cell? p = w.cell? p
theorem But.refl (g : Nat) (w : World) : But g w w := fun _ _ _ => rfl
theorem But.alloc_drew (g : Nat) (w : World) (o : Obj) : But g w.drew (w.alloc o).drew := fun _ _ h2 => (Grow.of_alloc w o).cell h2
theorem cell_of_heap {w W : World} {p : Addr} (h : W.heap[p.block]? = w.heap[p.block]?) : W.cell? p = w.cell? p := by unfold World.cell?; rw [h]
theorem But.two (w : World) (o o' q : Obj) : But w.heap.size ((w.alloc o).alloc q) ((w.alloc o').alloc q) := fun p h1 _ => by
 refine cell_of_heap ?_
 show ((w.heap.push o').push q)[p.block]? = ((w.heap.push o).push q)[p.block]?
 simp only [Array.getElem?_push, Array.size_push, if_neg h1]
def wpRead (P : Program) (ops : Array Oper) (S : World → Prop) (R : Act → World → Prop) : List Nat → Act → World → Prop
 | [], a, w => R a w
 | i :: r, a, w => ∃ o, ops[i]? = some o ∧ ((Region.wanted o (yielded ops a.tmps) = true ∧ ∃ v, (∀ W, S W → (execOp a.eval o).run P W = .ok (.value v) W) ∧ wpRead P ops S R r (a.put o.dst v) w) ∨
   (Region.wanted o (yielded ops a.tmps) = false ∧ wpRead P ops S R r (a.put o.dst undef) w))
def wpTail (P : Program) (ops : Array Oper) (Q : Exit → Act → World → Prop) (S : World → Prop) (R : Act → World → Prop) : List Nat → Act → World → Prop
 | [], a, w => R a w
 | i :: r, a, w => wpOp P ops Q i (fun a' w' => S w' ∧ wpTail P ops Q S R r a' w') a w
section
variable {P : Program} {ops : Array Oper} {Q : Exit → Act → World → Prop} {S : World → Prop} {R : Act → World → Prop}
theorem wpTail_sound (n : Nat) : ∀ (c : List Nat) (listed : Array Bool) (a : Act) (w : World),
  (∀ a w, R a w → wpAnyH P .any ops Q S n (Chain.after listed (c.map fun i => (i, false))) a w) →
  Chain.ok ops (c.map fun i => (i, false)) listed = true → wpTail P ops Q S R c a w → wpAnyH P .any ops Q S (n + c.length) listed a w
 | [], listed, a, w, hR, _, h => hR a w h
 | i :: r, listed, a, w, hR, hB, h => by
  simp only [List.map_cons, Chain.ok, Bool.and_eq_true] at hB
  rw [List.length_cons, ← Nat.add_assoc]
  refine wpAnyH_all (rs := [i]) (by simpa using hB.1) (by simp) ?_
  intro k hk
  obtain rfl : k = i := by simpa using hk
  exact wpOp_mono (fun a' w' h' => ⟨h'.1, wpTail_sound n r _ a' w' hR hB.2 h'.2⟩) h
theorem wpRead_sound (hs : Region.noSelect ops = true) (hQ : ∀ c a w, ¬ Q (.panic c) a w) (n : Nat) : ∀ (c : List Nat) (listed : Array Bool) (a : Act) (w : World), S w →
  (∀ a w, R a w → wpAnyH P .any ops Q S n (Chain.after listed (c.map fun i => (i, true))) a w) →
  Chain.ok ops (c.map fun i => (i, true)) listed = true → wpRead P ops S R c a w → wpAnyH P .any ops Q S (n + c.length) listed a w
 | [], listed, a, w, _, hR, _, h => hR a w h
 | i :: r, listed, a, w, hw, hR, hB, h => by
  simp only [List.map_cons, Chain.ok, Bool.and_eq_true] at hB
  obtain ⟨o, ho, hh⟩ := h
  rw [List.length_cons, ← Nat.add_assoc]
  rcases hh with ⟨h1, v, hv, hr⟩ | ⟨h1, hr⟩
  ·exact wpAnyH_take ho hs hB.1.1 hB.1.2 (fun c a w h => absurd h (hQ _ _ _)) (.inl ⟨h1, hv⟩) hw (wpRead_sound hs hQ n r _ _ w hw hR hB.2 hr)
  ·exact wpAnyH_take ho hs hB.1.1 hB.1.2 (fun c a w h => absurd h (hQ _ _ _)) (.inr ⟨h1, rfl⟩) hw (wpRead_sound hs hQ n r _ _ w hw hR hB.2 hr)
theorem wp_region_reads {id : Nat} {a : Act} {w : World} (c d : List Nat) (S : World → Prop) (hm : P.follows .mixedOrders = true) (hs : Region.noSelect ops = true)
  (hB : (Chain.ok ops (c.map fun i => (i, true)) (Array.replicate ops.size false) && Chain.ok ops (d.map fun i => (i, false)) (Chain.after (Array.replicate ops.size false) (c.map fun i => (i, true))) && (d.length + c.length == ops.size) &&
   (Region.ready .any ops (Chain.after (Chain.after (Array.replicate ops.size false) (c.map fun i => (i, true))) (d.map fun i => (i, false))) == [])) = true)
  (h0 : S w.drew)
  (h : wpRead P ops S (wpTail P ops (NoPanic Q) S (fun a w => Q .normal a w) d) c a w.drew) : (Code.region id ops true).wp P Q a w := by
 simp only [Bool.and_eq_true] at hB
 obtain ⟨⟨⟨b1, b2⟩, b3⟩, b4⟩ := hB
 have hl : d.length + c.length = ops.size := by simpa using b3
 refine wp_region_noPanic (wp_region_held (S := S) hm ?_)
 have h1 := wpRead_sound (P := P) (ops := ops) (Q := NoPanic Q) (S := S) (R := wpTail P ops (NoPanic Q) S (fun a w => Q .normal a w) d) hs (fun _ _ _ h => h) d.length c (Array.replicate ops.size false) a w.drew h0
  (fun a w h => by
   have h2 := wpTail_sound (P := P) (ops := ops) (Q := NoPanic Q) (S := S) (R := fun a w => Q .normal a w) 0 d _ a w (fun a w h => ⟨by simpa using b4, h⟩) b2 h
   rwa [Nat.zero_add] at h2) b1 h
 rwa [hl] at h1
theorem read_take {l rest : List Oper} {i : Nat} {r : List Nat} {a : Act} {w : World} {o : Oper} (hi : l.drop i = o :: rest) (hw : Region.wanted o (yielded l.toArray a.tmps) = true) (v : Value)
  (hv : ∀ W, S W → (execOp a.eval o).run P W = .ok (.value v) W) (h : wpRead P l.toArray S R r (a.put o.dst v) w) : wpRead P l.toArray S R (i :: r) a w := ⟨o, at_of_drop hi, .inl ⟨hw, v, hv, h⟩⟩
theorem read_done {a : Act} {w : World} (h : R a w) : wpRead P ops S R [] a w := h
theorem tail_op {l rest : List Oper} {i : Nat} {r : List Nat} {a : Act} {w : World} {o : Oper} (hi : l.drop i = o :: rest) (hw : Region.wanted o (yielded l.toArray a.tmps) = true)
  (h : ∀ K : Act → World → Prop, (∀ a' w', S w' → wpTail P l.toArray Q S R r a' w' → K a' w') → o.wp P a w K Q) : wpTail P l.toArray Q S R (i :: r) a w := by
 unfold wpTail wpOp
 simp only [at_of_drop hi, hw, if_true]
 exact .inl (h _ fun a' w' h1 h2 => ⟨h1, h2⟩)
theorem tail_done {a : Act} {w : World} (h : R a w) : wpTail P ops Q S R [] a w := h
end
attribute [irreducible] wpRead wpTail
end Go.Proofs.YtfbimboemahhhaaGreatDoor
