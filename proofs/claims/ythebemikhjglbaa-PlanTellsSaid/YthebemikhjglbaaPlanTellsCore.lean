/-
  The walk of PlanTells: what it answers at every model.
-/
import Derived.Test.YthebemikhjglbaaUp15
import Derived.Test.YthebemikhjglbaaRfPlan
import Derived.Test.YthebemikhjglbaaMdFew
import Derived.Test.YthebemikhjglbaaNumsEq
namespace Go.Proofs.Ythebemikhjglbaa
open Go.RowKit

theorem fstC_le {α : Type} {f : α → Nat} {b : Nat} (h : ∀ a, f a ≤ b) : ∀ l : List α, fstC f l ≤ b
  | [] => Nat.zero_le _
  | a :: r => by
    rw [fstC]
    split
    · exact fstC_le h r
    · exact h a
theorem Md.chk_le (m : Md) : m.chk ≤ 12 := by
  have h1 : ∀ s, m.segC s ≤ 12 := fun s => by unfold Md.segC; repeat (first | (split; omega) | omega | split)
  have h2 : ∀ s, m.secC s ≤ 12 := fun s => by unfold Md.secC; repeat (first | (split; omega) | omega | split)
  have h3 : m.segsC ≤ 12 := by
    unfold Md.segsC
    split
    · split <;> omega
    · exact fstC_le h1 _
  have h4 : m.secsC ≤ 12 := fstC_le h2 _
  have h5 : m.namesC ≤ 12 := by unfold Md.namesC; repeat (first | (split; omega) | omega | split)
  unfold Md.chk
  repeat (first | (split; omega) | omega | split)
theorem Md.planC_le (m : Md) : m.planC ≤ 12 := by
  have := m.chk_le
  unfold Md.planC
  split
  · exact this
  · split <;> omega
/-- The number of an error, or that there is none. -/
theorem code_of (c : Nat) (h : c ≤ 12) (w : World) : Calls Try.prog 9 #[eC c] w fun e w' => e = .returned (.int .i64 c) ∧ w = w' := by
  by_cases h0 : c = 0
  · subst h0
    exact code_nil w
  · rw [eC_some h0]
    exact code_some c (by omega) h w

theorem sum_small {m : Md} {n1 n2 : Nat} (l1 : n1 = m.segs.length) (l2 : n2 = m.secs.length) (hs1 : ∀ s ∈ m.segs, s.pl.own.length ≤ reachBytes) (hs2 : ∀ s ∈ m.secs, s.pl.own.length ≤ reachBytes) :
    n1 ≤ 20 → n2 ≤ 70 → m.sum ≤ 4000000000000000000 := fun h1 h2 => by
  have q1 := sum_le (fun s : Sg => s.pl.own.length) reachBytes m.segs hs1
  have q2 := sum_le (fun s : Se => s.pl.own.length) reachBytes m.secs hs2
  have e1 : m.segs.length * reachBytes ≤ 20 * reachBytes := Nat.mul_le_mul_right _ (by omega)
  have e2 : m.secs.length * reachBytes ≤ 70 * reachBytes := Nat.mul_le_mul_right _ (by omega)
  unfold Md.sum
  unfold reachBytes at q1 q2 e1 e2
  omega

set_option maxRecDepth 100000 in
set_option maxHeartbeats 4000000 in
theorem planTells_core (m : Md) (ok : m.Ok) (A1 A2 : Option Addr) (n1 c1 n2 c2 : Nat) (w : World) (g1 : ZR sgK w w.heap.size A1 n1 c1 m.segs) (g2 : ZR seK w w.heap.size A2 n2 c2 m.secs)
    (hs1 : ∀ s ∈ m.segs, s.pl.own.length ≤ reachBytes) (hs2 : ∀ s ∈ m.secs, s.pl.own.length ≤ reachBytes) :
    Calls Try.prog 3 #[.agg (mdC m (.slice A1 n1 c1) (.slice A2 n2 c2))] w fun e w' => e = .returned (.bool true) ∧ Grow w w' := by
  have hsm := sum_small g1.len g2.len hs1 hs2
  have HF := Lib.hid (fun (w' : World) (hg : Grow w w') => few_any m A1 A2 n1 c1 n2 c2 w' (g1.grow hg) (g2.grow hg) hsm)
  have HO := Lib.hid (fun (w' : World) (hg : Grow w w') => of_any m ok A1 A2 n1 c1 n2 c2 w' (g1.grow hg) (g2.grow hg))
  have HR := Lib.hid (fun (w' : World) (hg : Grow w w') => rPlan_any m ok A1 A2 n1 c1 n2 c2 w' (g1.grow hg) (g2.grow hg))
  have HC := Lib.hid m.planC_le
  unfold OfR at HO
  unfold RPlanR at HR
  obtain ⟨x0, x1, x2, x3, x4, x5, x6, x7, x10, hC⟩ : ∃ x0 x1 x2 x3 x4 x5 x6 x7 x10 : Value, mdC m (.slice A1 n1 c1) (.slice A2 n2 c2) = #[x0, x1, x2, x3, x4, x5, x6, x7, .slice A1 n1 c1, .slice A2 n2 c2, x10] := ⟨_, _, _, _, _, _, _, _, _, rfl⟩
  rw [hC] at HF HO HR ⊢
  generalize m.planC = C at HO HR HC
  generalize m.planD = D at HO HR
  generalize m.few = few at HF
  clear hC g1 g2 ok hs1 hs2 hsm
  go_enter Try.func3, Try.ntmps3
  go_wp2_with fail
  generalize hW : World.alloc _ _ = W0
  obtain ⟨b1, hg0⟩ := blk1 hW
  clear hW
  have HM0 := Lib.hid b1
  have HG0 := Lib.hid hg0
  clear b1 hg0
  refine (up15 _).mono ?_
  rintro e w1 ⟨rfl, hg⟩
  have HM1 := Lib.hid (HM0.out.grow hg)
  have HG1 : Hid (Grow w w1) := HG0.out.trans hg
  clear hg HM0 HG0
  obtain ⟨v0, v1, v2, v3, v4, v5, v6, v7, v8, v9, v10⟩ := HM1.out.c11
  go_wp2_with fail
  clear v0 v1 v2 v3 v4 v5 v6 v7 v8 v9 v10
  refine (HF.out _ HG1.out).mono ?_
  rintro e w2 ⟨rfl, hg⟩
  have HM2 := Lib.hid (HM1.out.grow hg)
  have HG2 : Hid (Grow w w2) := HG1.out.trans hg
  clear hg HM1 HG1 HF
  by_cases hf : few = 0
  · have d : ((few : Int) == 0) = true := by simp [hf]
    clear hf
    go_wp2
    go_ret
    exact ⟨rfl, HG2.out⟩
  have d : ((few : Int) == 0) = false := by simp; omega
  clear hf
  obtain ⟨v0, v1, v2, v3, v4, v5, v6, v7, v8, v9, v10⟩ := HM2.out.c11
  go_wp2_with fail
  clear v0 v1 v2 v3 v4 v5 v6 v7 v8 v9 v10 d
  refine (HO.out _ HG2.out).mono ?_
  rintro e w3 ⟨cs, rfl, ⟨A, n, c, A', n', c', rfl, h1, h2⟩, hg⟩
  generalize hev : eC C = ev
  have HE := Lib.hid hev
  have HN1 := Lib.hid h1
  have HN2 := Lib.hid h2
  have HM3 := Lib.hid (HM2.out.grow hg)
  have HG3 : Hid (Grow w w3) := HG2.out.trans hg
  clear hev h1 h2 hg HM2 HG2 HO
  have hal := Grow.of_alloc w3 (.cells #[.int .u64 (D.ph : Nat), .int .u64 (D.sh : Nat), .int .u64 (D.sz : Nat), .slice A n c, .slice A' n' c'] 37)
  have HMa := Lib.hid (HM3.out.grow hal)
  clear hal
  obtain ⟨v0, v1, v2, v3, v4, v5, v6, v7, v8, v9, v10⟩ := HMa.out.c11
  go_wp2_with fail
  clear v0 v1 v2 v3 v4 v5 v6 v7 v8 v9 v10 HMa
  generalize hW : World.alloc _ _ = W4
  obtain ⟨b4, hg4⟩ := blk1 hW
  clear hW
  have HP4 := Lib.hid b4
  have HG4 : Hid (Grow w W4) := HG3.out.trans hg4
  have HN14 := Lib.hid ((HN1.out.belowAt hg4 (Nat.le_refl _)).more hg4.size)
  have HN24 := Lib.hid ((HN2.out.belowAt hg4 (Nat.le_refl _)).more hg4.size)
  clear b4 hg4 HN1 HN2 HM3 HG3
  refine (HR.out _ HG4.out).mono ?_
  rintro e w5 ⟨cs, rfl, ⟨B, p, q, B', p', q', rfl, h1, h2⟩, hg⟩
  have HG5 : Hid (Grow w w5) := HG4.out.trans hg
  have HP5 := Lib.hid (HP4.out.grow hg)
  have HN15 := Lib.hid ((HN14.out.belowAt hg (Nat.le_refl _)).more hg.size)
  have HN25 := Lib.hid ((HN24.out.belowAt hg (Nat.le_refl _)).more hg.size)
  have HQ1 := Lib.hid h1
  have HQ2 := Lib.hid h2
  clear h1 h2 hg HG4 HP4 HN14 HN24 HR
  generalize D.ph = ph at HP5 ⊢
  generalize D.sh = sh at HP5 ⊢
  generalize D.sz = sz at HP5 ⊢
  generalize D.segs = l1 at HN15 HQ1
  generalize D.secs = l2 at HN25 HQ2
  go_wp2_with fail
  generalize hW : World.alloc _ _ = W6
  obtain ⟨b6, hg6⟩ := blk1 hW
  clear hW
  have HR6 := Lib.hid b6
  have HP6 := Lib.hid (HP5.out.grow hg6)
  have HG6 : Hid (Grow w W6) := HG5.out.trans hg6
  have HN16 := Lib.hid ((HN15.out.belowAt hg6 (Nat.le_refl _)).more hg6.size)
  have HN26 := Lib.hid ((HN25.out.belowAt hg6 (Nat.le_refl _)).more hg6.size)
  have HQ16 := Lib.hid ((HQ1.out.belowAt hg6 (Nat.le_refl _)).more hg6.size)
  have HQ26 := Lib.hid ((HQ2.out.belowAt hg6 (Nat.le_refl _)).more hg6.size)
  clear b6 hg6 HP5 HG5 HN15 HN25 HQ1 HQ2
  have HCd := Lib.hid (code_of C HC.out W6)
  rw [HE.out] at HCd
  refine HCd.out.mono ?_
  rintro e w7 ⟨rfl, rfl⟩
  clear HCd HE
  have y0 := HP6.out.at 0
  have y1 := HP6.out.at 1
  have y2 := HP6.out.at 2
  have y3 := HP6.out.at 3
  have z0 := HR6.out.at 0
  have z1 := HR6.out.at 1
  have z2 := HR6.out.at 2
  have z3 := HR6.out.at 3
  have dC : ((C : Int) == (C : Int)) = true := by simp
  have d0 : ((ph : Int) == (ph : Int)) = true := by simp
  have d1 : ((sh : Int) == (sh : Int)) = true := by simp
  have d2 : ((sz : Int) == (sz : Int)) = true := by simp
  go_wp2_with fail
  clear y0 y1 y2 y3 z0 z1 z2 z3 dC d0 d1 d2
  refine (nums_same A B n c p q l1 _ _ W6 HN16.out HQ16.out).mono ?_
  rintro e w7 ⟨rfl, hg⟩
  have HG7 : Hid (Grow w w7) := HG6.out.trans hg
  have HN27 := Lib.hid ((HN26.out.belowAt hg (Nat.le_refl _)).more hg.size)
  have HQ27 := Lib.hid ((HQ26.out.belowAt hg (Nat.le_refl _)).more hg.size)
  have y4 := (HP6.out.grow hg).at 4
  have z4 := (HR6.out.grow hg).at 4
  clear hg HG6 HN26 HQ26 HP6 HR6
  go_wp2_with fail
  clear y4 z4
  refine (nums_same A' B' n' c' p' q' l2 _ _ w7 HN27.out HQ27.out).mono ?_
  rintro e w8 ⟨rfl, hg⟩
  have HG8 : Hid (Grow w w8) := HG7.out.trans hg
  clear hg
  go_wp2
  go_ret
  exact ⟨rfl, HG8.out⟩
end Go.Proofs.Ythebemikhjglbaa
