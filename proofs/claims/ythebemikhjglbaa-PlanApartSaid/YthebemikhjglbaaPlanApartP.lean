/-
  The walk of PlanApart at every model with sections.
-/
import Derived.Test.YthebemikhjglbaaPlanApartA
namespace Go.Proofs.Ythebemikhjglbaa
open Go.RowKit

set_option maxRecDepth 100000 in
set_option maxHeartbeats 32000000 in
theorem planApart_pos (m : Md) (ok : m.Ok) (A1 A2 : Option Addr) (n1 c1 n2 c2 : Nat) (w : World) (hpos : 0 < n2) (g1 : ZR sgK w w.heap.size A1 n1 c1 m.segs) (g2 : ZR seK w w.heap.size A2 n2 c2 m.secs)
    (hsm : n1 ≤ 20 → n2 ≤ 70 → m.sum ≤ 4000000000000000000) :
    Calls Try.prog 4 #[.agg (mdC m (.slice A1 n1 c1) (.slice A2 n2 c2))] w fun e w' => e = .returned (.bool true) ∧ Grow w w' := by
  have HPos := Lib.hid hpos
  clear hpos
  have HF := Lib.hid (fun (w' : World) (hg : Grow w w') => few_any m A1 A2 n1 c1 n2 c2 w' (g1.grow hg) (g2.grow hg) hsm)
  have HO := Lib.hid (fun (w' : World) (hg : Grow w w') => of_any m ok A1 A2 n1 c1 n2 c2 w' (g1.grow hg) (g2.grow hg))
  have HPD := Lib.hid (fun (h : m.planC = 0) => planned_of ok h g1.owns g2.owns)
  have HSz := Lib.hid (fun w => sizes_any m.wide m.big w)
  have hm1 := g1.max
  have hc1 := g1.cap
  have hm2 := g2.max
  have hc2 := g2.cap
  unfold maxLen at hm1 hm2
  have HZ1 := Lib.hid g1
  have HZ2 := Lib.hid g2
  have HL1 := Lib.hid g1.len
  have HL2 := Lib.hid g2.len
  have HVa := Lib.hid (fun (k : Nat) (hk : k < m.segs.length) => (ok.segs _ (m.sg_mem hk)).vaddr)
  have hz0 := hSize_le m.wide
  have hz1 := byWide_le m.wide 32 56 64 (by omega) (by omega)
  have hz2 := byWide_le m.wide 40 64 64 (by omega) (by omega)
  unfold OfR at HO
  obtain ⟨x2, x3, x4, x5, x6, x7, x10, hC⟩ : ∃ x2 x3 x4 x5 x6 x7 x10 : Value, mdC m (.slice A1 n1 c1) (.slice A2 n2 c2) = #[.bool m.wide, .bool m.big, x2, x3, x4, x5, x6, x7, .slice A1 n1 c1, .slice A2 n2 c2, x10] := ⟨_, _, _, _, _, _, _, rfl⟩
  rw [hC] at HF HO ⊢
  obtain ⟨few, hfw⟩ : ∃ q, m.few = q := ⟨_, rfl⟩
  rw [hfw] at HF
  clear hC g1 g2 ok hsm hfw
  go_enter Try.func4, Try.ntmps4
  go_wp2_with fail
  generalize hW : World.alloc _ _ = W0
  obtain ⟨b1, hg0⟩ := blk1 hW
  clear hW
  have HM0 := Lib.hid b1
  have HG0 := Lib.hid hg0
  clear b1 hg0
  refine (up15 _).mono ?_
  rintro e w1 ⟨rfl, hg⟩
  have HM1 := Lib.hid (HM0.out.grow hg)
  have HG1 : Hid (Grow w w1) := HG0.out.trans hg
  clear hg HM0 HG0
  obtain ⟨v0, v1, v2, v3, v4, v5, v6, v7, v8, v9, v10⟩ := HM1.out.c11
  go_wp2_with fail
  clear v0 v1 v2 v3 v4 v5 v6 v7 v8 v9 v10
  refine (HF.out _ HG1.out).mono ?_
  rintro e w2 ⟨rfl, hg⟩
  have HM2 := Lib.hid (HM1.out.grow hg)
  have HG2 : Hid (Grow w w2) := HG1.out.trans hg
  clear hg HM1 HG1 HF
  by_cases hf : few = 0
  · have d : ((few : Int) == 0) = true := by simp [hf]
    clear hf
    go_wp2
    go_ret
    exact ⟨rfl, HG2.out⟩
  have d : ((few : Int) == 0) = false := by simp; omega
  clear hf
  obtain ⟨v0, v1, v2, v3, v4, v5, v6, v7, v8, v9, v10⟩ := HM2.out.c11
  go_wp2_with fail
  clear v0 v1 v2 v3 v4 v5 v6 v7 v8 v9 v10 d
  refine (HO.out _ HG2.out).mono ?_
  rintro e w3 ⟨cs, rfl, ⟨Aa, na, ca, Ab, nb, cb, rfl, h1, h2⟩, hg⟩
  have HG3 : Hid (Grow w w3) := HG2.out.trans hg
  have HM3 := Lib.hid (HM2.out.grow hg)
  clear hg HM2 HG2 HO
  by_cases hpc : m.planC = 0
  case neg =>
    rw [eC_some hpc]
    generalize m.planC = C
    clear h1 h2 hpc
    go_wp2
    go_ret
    exact ⟨rfl, HG3.out.trans (Grow.of_alloc _ _)⟩
  have HPl := Lib.hid (HPD.out hpc)
  have eD : m.planD = ⟨m.phoff, m.shoff, m.eT, (List.range m.segs.length).map m.P2, (List.range m.secs.length).map m.P3⟩ := by unfold Md.planD; rw [if_pos hpc]
  rw [eD] at h1 h2 ⊢
  rw [hpc, eC_zero]
  simp only at h1 h2 ⊢
  obtain rfl : n1 = na := by have := h1.len; have := HL1.out; simp at *; omega
  obtain rfl : n2 = nb := by have := h2.len; have := HL2.out; simp at *; omega
  have o1 := HPl.out.ok.n1
  have o2 := HPl.out.ok.n2
  rw [← HL1.out] at o1
  rw [← HL2.out] at o2
  have hph : m.phoff ≤ 64 := by unfold Md.phoff; split <;> omega
  have HCa := Lib.hid (nsp_cells h1 HL1.out)
  have HCb := Lib.hid (nsp_cells h2 HL2.out)
  clear eD hpc h1 h2 HPD

  obtain ⟨ph, hph2⟩ : ∃ q, m.phoff = q := ⟨_, rfl⟩
  obtain ⟨sh, hsh2⟩ : ∃ q, m.shoff = q := ⟨_, rfl⟩
  obtain ⟨et, het2⟩ : ∃ q, m.eT = q := ⟨_, rfl⟩
  obtain ⟨z0, hz02⟩ : ∃ q, hSize m.wide = q := ⟨_, rfl⟩
  obtain ⟨z1, hz12⟩ : ∃ q, byWide m.wide 32 56 = q := ⟨_, rfl⟩
  obtain ⟨z2, hz22⟩ : ∃ q, byWide m.wide 40 64 = q := ⟨_, rfl⟩
  obtain ⟨k1, hk1⟩ : ∃ q, z1 * n1 = q := ⟨_, rfl⟩
  obtain ⟨k2, hk2⟩ : ∃ q, z2 * (n2 + 1) = q := ⟨_, rfl⟩
  have EB := Lib.hid (show baseP m = [(0, z0), (ph, k1)] ++ [(sh, k2)] by
    unfold baseP
    rw [← HL1.out, ← HL2.out, if_pos HPos.out, hz02, hz12, hph2, hk1, hz22, hsh2, hk2])
  rw [hz02] at hz0 HSz
  rw [hz12] at hz1 HSz
  rw [hz22] at hz2 HSz
  rw [hph2] at hph ⊢
  rw [hsh2, het2]
  have HEt := Lib.hid het2
  have hk1b : k1 ≤ 64 * 16 := by rw [← hk1]; exact Nat.mul_le_mul hz1 o1
  have hk2b : k2 ≤ 64 * 65 := by rw [← hk2]; exact Nat.mul_le_mul hz2 (by omega)
  have m1 : IntKind.i64.wrap ((z1 : Int) * (n1 : Int)) = (k1 : Int) := by
    have : (z1 : Int) * (n1 : Int) = (k1 : Int) := by rw [← hk1]; simp
    rw [this, IntKind.wrap_i64]
    omega
  have m2 : IntKind.u64.wrap (k1 : Int) = (k1 : Int) := by rw [IntKind.wrap_u64]; omega
  have m3 : IntKind.u64.wrap (z0 : Int) = (z0 : Int) := by rw [IntKind.wrap_u64]; omega
  have q1 : IntKind.i64.wrap ((n2 : Int) + 1) = (n2 : Int) + 1 := by rw [IntKind.wrap_i64]; omega
  have q2 : IntKind.i64.wrap ((z2 : Int) * ((n2 : Int) + 1)) = (k2 : Int) := by
    have : (z2 : Int) * ((n2 : Int) + 1) = (k2 : Int) := by rw [← hk2]; simp
    rw [this, IntKind.wrap_i64]
    omega
  have q3 : IntKind.u64.wrap (k2 : Int) = (k2 : Int) := by rw [IntKind.wrap_u64]; omega
  have Q1 := Lib.hid q1
  have Q2 := Lib.hid q2
  have Q3 := Lib.hid q3
  clear q1 q2 q3 hph2 hsh2 het2 hz02 hz12 hz22 hk1 hk2
  have hal : Grow w3 (w3.alloc (.cells #[.int .u64 (ph : Nat), .int .u64 (sh : Nat), .int .u64 (et : Nat), .slice Aa n1 ca, .slice Ab n2 cb] 37)) := (blk1 rfl).2
  have HMa := Lib.hid (HM3.out.grow hal)
  clear hal
  have v0 := HMa.out.at 0
  have v1 := HMa.out.at 1
  have v2 := HMa.out.at 2
  have v3 := HMa.out.at 3
  have v4 := HMa.out.at 4
  have v5 := HMa.out.at 5
  have v6 := HMa.out.at 6
  have v7 := HMa.out.at 7
  have v8 := HMa.out.at 8
  have v9 := HMa.out.at 9
  have v10 := HMa.out.at 10
  go_wp2_with fail
  clear v0 v1 v2 v3 v4 v5 v6 v7 v8 v9 v10
  generalize hW : World.alloc _ _ = W4
  obtain ⟨b4, hg4⟩ := blk1 hW
  clear hW HMa
  obtain ⟨gx, hgx⟩ : ∃ q, q = w3.heap.size := ⟨_, rfl⟩
  rw [← hgx] at b4 ⊢
  have HXn := Lib.hid (show w.heap.size < gx from by have := HM3.out.lt; omega)
  have HX4 := Lib.hid b4
  have HM4 := Lib.hid (HM3.out.grow hg4)
  have HG4 : Hid (Grow w W4) := HG3.out.trans hg4
  have HCa4 := Lib.hid (fun j hj => row_on hg4 (HCa.out j hj))
  have HCb4 := Lib.hid (fun j hj => row_on hg4 (HCb.out j hj))
  clear b4 hg4 hgx HM3 HG3 HCa HCb
  refine (HSz.out _).mono ?_
  rintro e w5 ⟨rfl, hg⟩
  have HX5 := Lib.hid (HX4.out.grow hg)
  have HM5 := Lib.hid (HM4.out.grow hg)
  have HG5 : Hid (Grow w w5) := HG4.out.trans hg
  have HCa5 := Lib.hid (fun j hj => row_on hg (HCa4.out j hj))
  have HCb5 := Lib.hid (fun j hj => row_on hg (HCb4.out j hj))
  clear hg HX4 HM4 HG4 HCa4 HCb4 HSz
  rename_i K1 hK1 K0 hK0
  have HK := Lib.hid hK1
  clear hK1
  go_wp2_with fail
  apply HK.out
  clear HK
  apply wp_seq_k
  intro K hK
  have HK := Lib.hid hK
  clear hK
  have x0 := HX5.out.at 0
  go_wp2_with fail
  clear x0
  generalize hW : World.alloc _ _ = w6
  obtain ⟨b6, hg6⟩ := blk1 hW
  clear hW
  have HO1 : Hid (ON w6 w5.heap.size 28 .u64 (some ⟨w5.heap.size, 0, none⟩) 2 2 [0, ph]) := Lib.hid (ON.of_blk (l := [0, ph]) b6 (Nat.le_refl _) (by show 2 ≤ maxLen; unfold maxLen; omega))
  have hl6 := Lib.hid b6.lt
  have HG6 := Lib.hid hg6
  have v8 := (HM5.out.grow hg6).at 8
  clear b6 hg6
  apply HK.out
  clear HK
  apply wp_seq_k
  intro K hK
  have HK := Lib.hid hK
  clear hK
  go_wp2_with fail
  clear v8 m1 m2 m3
  generalize hW : World.alloc _ _ = w7
  obtain ⟨b7, hg7⟩ := blk1 hW
  clear hW
  have HO2 : Hid (ON w7 w5.heap.size 28 .u64 (some ⟨w6.heap.size, 0, none⟩) 2 2 [z0, k1]) := Lib.hid (ON.of_blk (l := [z0, k1]) b7 HG6.out.size (by show 2 ≤ maxLen; unfold maxLen; omega))
  have HB7 := Lib.hid (show Below w5.heap.size w5 w7 from Grow.trans HG6.out hg7)
  obtain ⟨L0, hL0⟩ : ∃ L : List (Nat × Nat), L = [(0, z0), (ph, k1)] := ⟨_, rfl⟩
  have HPr : Hid (Pr w7 w5.heap.size (some ⟨w5.heap.size, 0, none⟩) 2 (some ⟨w6.heap.size, 0, none⟩) 2 2 L0) := Lib.hid ⟨by rw [hL0]; rfl, by rw [hL0]; exact HO1.out.keep hg7, by rw [hL0]; exact HO2.out, by
    intro e
    have e2 : w5.heap.size = w6.heap.size := Option.some.inj e
    have := hl6.out
    omega⟩
  have HL0 := Lib.hid hL0
  have HS7 := Lib.hid (show w5.heap.size ≤ w7.heap.size from HB7.out.size)
  have v9 := (HM5.out.below HB7.out HM5.out.lt).at 9
  clear b7 hg7 hl6 HO1 HO2 HG6 hL0
  obtain ⟨A6, hA6⟩ : ∃ A6 : Option Addr, (some ⟨w5.heap.size, 0, none⟩ : Option Addr) = A6 := ⟨_, rfl⟩
  obtain ⟨A7, hA7⟩ : ∃ A7 : Option Addr, (some ⟨w6.heap.size, 0, none⟩ : Option Addr) = A7 := ⟨_, rfl⟩
  rw [hA6, hA7] at HPr ⊢
  clear hA6 hA7
  skip
  apply HK.out
  clear HK
  apply wp_seq_k
  intro K hK
  have HK := Lib.hid hK
  clear hK
  have dn : decide (0 < n2) = true := decide_eq_true HPos.out
  have dn' : decide ((0 : Int) < (n2 : Int)) = true := decide_eq_true (by have := HPos.out; omega)
  have ha3 : Grow w7 (w7.alloc (.cells #[.int .u64 (sh : Nat)] 28)) := Grow.of_alloc _ _
  have HR3 := Lib.hid (Blk.new w7 28 #[.int .u64 (sh : Nat)])
  have HPr8 := Lib.hid (HPr.out.grow ha3)
  have HS8 := Lib.hid (Nat.le_trans HS7.out ha3.size)
  have HB8 := Lib.hid (HB7.out.trans (Below.mono ha3 HS7.out))
  have x1 := (HX5.out.below HB7.out HX5.out.lt).at 1
  have hlt8 := Lib.hid (fun g (hg : ownB A7 = some g) => show g < (w7.alloc (.cells #[.int .u64 (sh : Nat)] 28)).heap.size from (HPr8.out.s.ltB hg).2)
  clear ha3
  go_wp2_with (at_builtin; refine wpList_append1P (w7.alloc (.cells #[.int .u64 (sh : Nat)] 28)) rfl (.tmp 72) (.tmp 75) 35 rfl w5.heap.size 28 .u64 8 Try.underlying35 (by kernel_rfl) A6 2 2 _ rfl HPr8.out.f _ _ sh rfl HR3.out (by unfold maxLen; omega) (by omega) HS8.out ?_; intro A8 c8 w9 ho hg hw; refine Hid.out ?_)
  have HB9 := Lib.hid (show Below w5.heap.size w5 w9 from HB8.out.grown hg HS8.out (fun j hj => (HPr8.out.f.ltB hj).1))
  have HS9 := Lib.hid (show w5.heap.size ≤ w9.heap.size from HB9.out.size)
  have HO29 := Lib.hid (HPr8.out.s.grownBy hg (.inr (fun e => HPr8.out.ap e.symm)))
  have HO19 := Lib.hid ho
  have HA9 := Lib.hid (show ownB A8 ≠ ownB A7 from by
    rcases hw with e | e
    · rw [e]; exact HPr8.out.ap
    · rw [e]
      intro e2
      exact absurd (hlt8.out _ e2.symm) (Nat.lt_irrefl _))
  clear ho hg hw HPr8 HR3 HS8 HB8 hlt8 HPr HB7 HS7 x1 v9 dn dn'
  refine Lib.hid ?_
  have v9 := (HM5.out.below HB9.out HM5.out.lt).at 9
  have q1 := Q1.out
  have q2 := Q2.out
  have q3 := Q3.out
  have ha3 : Grow w9 (w9.alloc (.cells #[.int .u64 (k2 : Nat)] 28)) := Grow.of_alloc _ _
  have HR3 := Lib.hid (Blk.new w9 28 #[.int .u64 (k2 : Nat)])
  have HO13 := Lib.hid (HO19.out.keep ha3)
  have HO23 := Lib.hid (HO29.out.keep ha3)
  have HS8 := Lib.hid (Nat.le_trans HS9.out ha3.size)
  have HB8 := Lib.hid (HB9.out.trans (Below.mono ha3 HS9.out))
  have hlt8 := Lib.hid (fun g (hg : ownB A8 = some g) => show g < (w9.alloc (.cells #[.int .u64 (k2 : Nat)] 28)).heap.size from (HO13.out.ltB hg).2)
  clear ha3
  go_wp2_with (at_builtin; refine wpList_append1P (w9.alloc (.cells #[.int .u64 (k2 : Nat)] 28)) rfl (.tmp 77) (.tmp 85) 35 rfl w5.heap.size 28 .u64 8 Try.underlying35 (by kernel_rfl) A7 2 2 _ rfl HO23.out _ _ k2 rfl HR3.out (by unfold maxLen; omega) (by omega) HS8.out ?_; intro A9 c9 wl ho hg hw; refine Hid.out ?_)
  have HBl := Lib.hid (show Below w5.heap.size w5 wl from HB8.out.grown hg HS8.out (fun j hj => (HO23.out.ltB hj).1))
  have HSl := Lib.hid (show w5.heap.size ≤ wl.heap.size from HBl.out.size)
  have HO1l := Lib.hid (HO13.out.grownBy hg (.inr HA9.out))
  have HPr : Hid (Pr wl w5.heap.size A8 c8 A9 c9 3 (baseP m ++ segP m 0)) := Lib.hid ⟨by rw [EB.out]; rfl, by
    have h := HO1l.out
    rw [HL0.out] at h
    rw [EB.out]
    exact h, by
    have h := ho
    rw [HL0.out] at h
    rw [EB.out]
    exact h, by
    rcases hw with e | e
    · rw [e]; exact HA9.out
    · rw [e]
      intro e2
      exact absurd (hlt8.out _ e2) (Nat.lt_irrefl _)⟩
  clear ho hg hw HO13 HO23 HR3 HS8 HB8 hlt8 HO19 HO29 HB9 HS9 HA9 HO1l v9 q1 q2 q3 HL0
  refine Lib.hid ?_
  go_wp2_with fail
  clear Q1 Q2 Q3 EB
  apply HK.out
  clear HK
  apply wp_seq_k
  intro K hK
  have HK := Lib.hid hK
  clear hK
  have v8 := (HM5.out.below HBl.out HM5.out.lt).at 8
  go_wp2_with fail
  clear v8
  go_loopw [9, 10, 11] (fun x y i wr => ∃ (k : Nat) (A A' : Option Addr) (c c' n : Nat), k ≤ n1 ∧ i = .int .i64 k ∧ x = .slice A n c ∧ y = .slice A' n c' ∧ Pr wr w5.heap.size A c A' c' n (baseP m ++ segP m k) ∧ Below w5.heap.size w5 wr) (fun _ _ i _ => n1 - (intOf i).toNat)
  case atStart => exact ⟨0, A8, A9, c8, c9, 3, by omega, rfl, rfl, rfl, HPr.out, HBl.out⟩
  case round =>
    obtain ⟨k, A, A', c, c', n, hk, rfl, rfl, rfl, hpr, hbl⟩ := hrel
    clear HPr HBl HSl
    have HPr := Lib.hid hpr
    have HBl := Lib.hid hbl
    have HSl := Lib.hid (show w5.heap.size ≤ wr.heap.size from hbl.size)
    have HBw := Lib.hid (show Below w.heap.size w wr from grow_below HG5.out (Below.mono hbl HG5.out.size))
    clear hpr hbl
    have v8 := (HM5.out.below HBl.out HM5.out.lt).at 8
    by_cases hlt : k < n1
    · have hkl : k < m.segs.length := by rw [← HL1.out]; exact hlt
      obtain ⟨b, off, rfl, hb⟩ := HZ1.out.pos (by omega)
      obtain ⟨Ak, nk, ck, -, hcell, -⟩ := HZ1.out.at hkl
      have hse : m.segs[k] = m.sg k := by unfold Md.sg; rw [List.getD_eq_getElem?_getD, List.getElem?_eq_getElem hkl]; rfl
      rw [hse] at hcell
      have HC := Lib.hid (show ∀ i v, (sgC (m.sg k) (.slice Ak nk ck))[i]? = some v → w.cell? ⟨b, off + k * 10 + i, none⟩ = some v from hcell)
      have HBb := Lib.hid (show b < w.heap.size from hb)
      obtain ⟨br, or, rfl, hbr, hrc⟩ := HCa5.out k hlt
      have HRk := Lib.hid (hrc k hlt)
      have HBr := Lib.hid hbr
      have hnk : n ≤ 3 + k := by
        have h1 := HPr.out.len
        have h2 := baseP_len m
        have h3 := segP_len m k
        simp only [List.length_append] at h1
        omega
      have EL := Lib.hid (show baseP m ++ segP m (k + 1) = baseP m ++ segP m k ++ ownS m k from by simp [segP])
      have HLt2 := Lib.hid (fun hi => HPl.out.P2_lt hkl hi)
      have HIn := Lib.hid (fun hi => HPl.out.seg_in hkl hi)
      have HMd := Lib.hid (fun ht ha => HPl.out.seg_mod hkl ht ha (HVa.out k hkl))
      have HVk := Lib.hid (HVa.out k hkl)
      have HAl := Lib.hid (HPl.out.ok.sg k hkl).align
      have HOwn := Lib.hid (fun (hi : (m.sg k).pl.inn = -1) => show ownS m k = [(m.P2 k, (m.sg k).pl.size)] from by unfold ownS; rw [if_pos hi])
      have HNow := Lib.hid (fun (hi : (m.sg k).pl.inn ≠ -1) => show ownS m k = [] from by unfold ownS; rw [if_neg hi])
      rw [← HL1.out] at HIn
      clear hcell hse hkl hb hbr hrc
      generalize m.sg k = s at HC HLt2 HIn HOwn HNow HMd HVk HAl
      unfold sgC at HC
      have t6 : wr.cell? ⟨b, off + k * 10 + 6, none⟩ = some (.int .i64 s.pl.inn) := (HBw.out.cell HBb.out).trans (HC.out 6 _ rfl)
      have t7 : wr.cell? ⟨b, off + k * 10 + 7, none⟩ = some (.int .u64 (s.pl.off : Nat)) := (HBw.out.cell HBb.out).trans (HC.out 7 _ rfl)
      have t8 : wr.cell? ⟨b, off + k * 10 + 8, none⟩ = some (.int .u64 (s.pl.size : Nat)) := (HBw.out.cell HBb.out).trans (HC.out 8 _ rfl)
      have t9 : wr.cell? ⟨b, off + k * 10 + 9, none⟩ = some (.slice Ak nk ck) := (HBw.out.cell HBb.out).trans (HC.out 9 _ rfl)
      by_cases hi : s.pl.inn = -1
      · rw [hi] at t6
        have di : ((-1 : Int) == -1) = true := by decide
        have HOw := Lib.hid (HOwn.out hi)
        have HPv := Lib.hid (HLt2.out hi)
        clear hi HOwn HNow HIn HLt2
        obtain ⟨pv, hpv⟩ : ∃ q, m.P2 k = q := ⟨_, rfl⟩
        rw [hpv] at HRk HOw HPv HMd
        clear hpv
        have hal : Grow wr (wr.alloc (.cells #[.int .i64 (-1), .int .u64 (s.pl.off : Nat), .int .u64 (s.pl.size : Nat), .slice Ak nk ck] 52)) := (blk1 rfl).2
        have hal2 : Grow wr ((wr.alloc (.cells #[.int .i64 (-1), .int .u64 (s.pl.off : Nat), .int .u64 (s.pl.size : Nat), .slice Ak nk ck] 52)).alloc (.cells #[.int .u64 (pv : Nat)] 28)) := (blk2 rfl).2.2
        have y3 := ((HX5.out.below HBl.out HX5.out.lt).grow hal).at 3
        have hrk : (wr.alloc (.cells #[.int .i64 (-1), .int .u64 (s.pl.off : Nat), .int .u64 (s.pl.size : Nat), .slice Ak nk ck] 52)).cell? ⟨br, or + k, none⟩ = some (.int .u64 (pv : Int)) := ((HBl.out.trans (Below.mono hal HSl.out)).cell HBr.out).trans HRk.out
        have HR3 : Hid (Blk ((wr.alloc (.cells #[.int .i64 (-1), .int .u64 (s.pl.off : Nat), .int .u64 (s.pl.size : Nat), .slice Ak nk ck] 52)).alloc (.cells #[.int .u64 (pv : Nat)] 28)) (wr.heap.size + 1) 28 #[.int .u64 (pv : Nat)]) := Lib.hid ((blk2 rfl).2.1)
        have HBp : Hid (Blk ((wr.alloc (.cells #[.int .i64 (-1), .int .u64 (s.pl.off : Nat), .int .u64 (s.pl.size : Nat), .slice Ak nk ck] 52)).alloc (.cells #[.int .u64 (pv : Nat)] 28)) wr.heap.size 52 #[.int .i64 (-1), .int .u64 (s.pl.off : Nat), .int .u64 (s.pl.size : Nat), .slice Ak nk ck]) := Lib.hid ((blk2 rfl).1)
        have HPB := Lib.hid (HPr.out.grow hal2)
        have HSB := Lib.hid (Nat.le_trans HSl.out hal2.size)
        have HBB := Lib.hid (HBl.out.trans (Below.mono hal2 HSl.out))
        have hltA := Lib.hid (fun g (hg : ownB A = some g) => (HPr.out.f.ltB hg).2)
        have hltA' := Lib.hid (fun g (hg : ownB A' = some g) => show g < wr.heap.size from (HPr.out.s.ltB hg).2)
        have hszB := Lib.hid (show wr.heap.size ≤ ((wr.alloc (.cells #[.int .i64 (-1), .int .u64 (s.pl.off : Nat), .int .u64 (s.pl.size : Nat), .slice Ak nk ck] 52)).alloc (.cells #[.int .u64 (pv : Nat)] 28)).heap.size from hal2.size)
        have hxb := Lib.hid (show c ≤ maxLen from HPr.out.f.ns.max)
        clear hal hal2
        skip
        go_wp2_with (at_builtin; refine wpList_append1P ((wr.alloc (.cells #[.int .i64 (-1), .int .u64 (s.pl.off : Nat), .int .u64 (s.pl.size : Nat), .slice Ak nk ck] 52)).alloc (.cells #[.int .u64 (pv : Nat)] 28)) rfl (.tmp 103) (.tmp 109) 35 rfl w5.heap.size 28 .u64 8 Try.underlying35 (by kernel_rfl) A n c _ rfl HPB.out.f _ _ pv rfl HR3.out (by unfold maxLen; omega) (by omega) HSB.out ?_; intro A2 d2 w9 ho hg hw; refine Hid.out ?_)
        clear y3 hrk di t6 t7 t8 t9 v8
        have HB9 := Lib.hid (show Below w5.heap.size w5 w9 from HBB.out.grown hg HSB.out (fun j hj => (HPB.out.f.ltB hj).1))
        have HS9 := Lib.hid (show w5.heap.size ≤ w9.heap.size from HB9.out.size)
        have HO29 := Lib.hid (HPB.out.s.grownBy hg (.inr (fun e => HPB.out.ap e.symm)))
        have HO19 := Lib.hid ho
        have HA9 := Lib.hid (show ownB A2 ≠ ownB A' from by
          rcases hw with e | e
          · rw [e]; exact HPB.out.ap
          · rw [e]
            intro e2
            have h1 := hltA'.out _ e2.symm
            have h2 := hszB.out
            omega)
        have HBp9 := Lib.hid (HBp.out.grownBy hg (fun e => by
          have := hltA.out _ e.symm
          omega))
        clear ho hg hw HPB HR3 HSB HBB HBp hszB hltA hltA'
        refine Lib.hid ?_
        have z2 := HBp9.out.at 2
        have ha3 : Grow w9 (w9.alloc (.cells #[.int .u64 (s.pl.size : Nat)] 28)) := Grow.of_alloc _ _
        have HR3 := Lib.hid (Blk.new w9 28 #[.int .u64 (s.pl.size : Nat)])
        have HO13 := Lib.hid (HO19.out.keep ha3)
        have HO23 := Lib.hid (HO29.out.keep ha3)
        have HS8 := Lib.hid (Nat.le_trans HS9.out ha3.size)
        have HB8 := Lib.hid (HB9.out.trans (Below.mono ha3 HS9.out))
        have hlt8 := Lib.hid (fun g (hg : ownB A2 = some g) => show g < (w9.alloc (.cells #[.int .u64 (s.pl.size : Nat)] 28)).heap.size from (HO13.out.ltB hg).2)
        clear ha3
        go_wp2_with (at_builtin; refine wpList_append1P (w9.alloc (.cells #[.int .u64 (s.pl.size : Nat)] 28)) rfl (.tmp 111) (.tmp 114) 35 rfl w5.heap.size 28 .u64 8 Try.underlying35 (by kernel_rfl) A' n c' _ rfl HO23.out _ _ s.pl.size rfl HR3.out (by unfold maxLen; omega) (by omega) HS8.out ?_; intro A3 d3 wn ho hg hw; refine Hid.out ?_)
        have HBn := Lib.hid (show Below w5.heap.size w5 wn from HB8.out.grown hg HS8.out (fun j hj => (HO23.out.ltB hj).1))
        have HO1n := Lib.hid (HO13.out.grownBy hg (.inr HA9.out))
        have HPn : Hid (Pr wn w5.heap.size A2 d2 A3 d3 (n + 1) (baseP m ++ segP m (k + 1))) := Lib.hid ⟨by rw [EL.out, HOw.out, List.length_append, ← HPr.out.len]; rfl, by rw [EL.out, HOw.out, List.map_append]; exact HO1n.out, by rw [EL.out, HOw.out, List.map_append]; exact ho, by
          rcases hw with e | e
          · rw [e]; exact HA9.out
          · rw [e]
            intro e2
            exact absurd (hlt8.out _ e2) (Nat.lt_irrefl _)⟩
        clear ho hg hw HO13 HO23 HR3 HS8 HB8 hlt8 HO19 HO29 HB9 HS9 HA9 HO1n z2 HBp9 HPr HBl HSl HBw HOw EL
        refine Lib.hid ?_
        have HBx := Lib.hid (show Below w.heap.size w wn from grow_below HG5.out (Below.mono HBn.out HG5.out.size))
        have v8 := (HM5.out.below HBn.out HM5.out.lt).at 8
        have t0 : wn.cell? ⟨b, off + k * 10, none⟩ = some (.int .u32 (s.typ : Nat)) := (HBx.out.cell HBb.out).trans (HC.out 0 _ rfl)
        have t5 : wn.cell? ⟨b, off + k * 10 + 5, none⟩ = some (.int .u64 (s.align : Nat)) := (HBx.out.cell HBb.out).trans (HC.out 5 _ rfl)
        by_cases ht : s.typ = 1
        · have d : ((s.typ : Int) == 1) = true := by simp [ht]
          by_cases ha : 1 < s.align
          · have da : decide (1 < s.align) = true := decide_eq_true ha
            have da' : decide ((1 : Int) < (s.align : Int)) = true := decide_eq_true (by omega)
            obtain ⟨dd, hdd⟩ : ∃ q, (pv + (18446744073709551616 - s.vaddr)) % 18446744073709551616 = q := ⟨_, rfl⟩
            have hmod := HMd.out ht ha
            rw [hdd] at hmod
            have hv := HVk.out
            have hp := HPv.out
            have hal := HAl.out
            have w1 : IntKind.u64.wrap ((pv : Int) - (s.vaddr : Int)) = (dd : Int) := by rw [IntKind.wrap_u64]; omega
            have w2 : (if (s.align : Int) < 1 then (1 : Int) else (s.align : Int)) = (s.align : Int) := by split <;> omega
            have w3 : Int.tmod (dd : Int) (s.align : Int) = 0 := by show ((dd % s.align : Nat) : Int) = 0; rw [hmod]; rfl
            have w4 : (dd : Int) % (s.align : Int) = 0 := by show ((dd % s.align : Nat) : Int) = 0; rw [hmod]; rfl
            have w5z : ((s.align : Int) == 0) = false := by simp; omega
            have w6z : ¬ ((s.align : Int) = 0) := by omega
            have w7z : ¬ (s.align = 0) := by omega
            have t2 : wn.cell? ⟨b, off + k * 10 + 2, none⟩ = some (.int .u64 (s.vaddr : Nat)) := (HBx.out.cell HBb.out).trans (HC.out 2 _ rfl)
            have y3 := (HX5.out.below HBn.out HX5.out.lt).at 3
            have hrk : wn.cell? ⟨br, or + k, none⟩ = some (.int .u64 (pv : Int)) := (HBn.out.cell HBr.out).trans HRk.out
            clear ht ha hdd hmod hv hp hal
            go_wp2_with fail
            clear t0 d da da'
            go_quiet (fail)
            clear w1 w2 w3 w4 w5z w6z w7z t2 t5 y3 hrk v8
            go_wp2
            go_roundw
            case rel => exact ⟨k + 1, A2, A3, d2, d3, n + 1, by omega, by go_num, rfl, rfl, HPn.out.grow (Grow.of_drewN _ _), HBn.out.trans (Below.mono (Grow.of_drewN _ _) HBn.out.size)⟩
            case measure => simp [intOf]; omega
          · have da : decide (1 < s.align) = false := decide_eq_false ha
            have da' : decide ((1 : Int) < (s.align : Int)) = false := decide_eq_false (by omega)
            clear ht ha
            go_wp2
            go_roundw
            case rel => exact ⟨k + 1, A2, A3, d2, d3, n + 1, by omega, by go_num, rfl, rfl, HPn.out, HBn.out⟩
            case measure => simp [intOf]; omega
        · have d : ((s.typ : Int) == 1) = false := by simp; omega
          clear ht
          go_wp2
          go_roundw
          case rel => exact ⟨k + 1, A2, A3, d2, d3, n + 1, by omega, by go_num, rfl, rfl, HPn.out, HBn.out⟩
          case measure => simp [intOf]; omega
      · obtain ⟨ht, i0, hi0, hin, heq, hpl⟩ := HIn.out hi
        have d : ((s.typ : Int) == 1) = false := by simp; omega
        have di : (s.pl.inn == -1) = false := by rw [hi0]; simp
        rw [hi0] at di t6
        have HNo := Lib.hid (HNow.out hi)
        obtain ⟨pv, hpv⟩ : ∃ q, m.P2 k = q := ⟨_, rfl⟩
        rw [hpv] at HRk heq hpl
        have w1 : IntKind.u64.wrap ((m.P2 i0 : Int) + (s.pl.off : Int)) = (pv : Int) := by rw [IntKind.wrap_u64]; omega
        obtain ⟨bs, os, hsa, hbs, hsc⟩ := HCa5.out i0 hin
        have HSc := Lib.hid (hsc i0 hin)
        have HBs := Lib.hid hbs
        generalize m.P2 i0 = p0 at w1 HSc
        clear hi hi0 heq hpl hpv HIn HOwn HNow HLt2 hbs hsc ht HMd
        have w2 : ((pv : Int) != (pv : Int)) = false := by simp
        go_wp2_with fail
        generalize hW : World.alloc _ _ = v1
        obtain ⟨b5, hg5⟩ := blk1 hW
        clear hW t6 t7 t8 t9 di v8
        have HB1 := Lib.hid (show Below w5.heap.size w5 v1 from HBl.out.trans (Below.mono hg5 HSl.out))
        have HP1 := Lib.hid (HPr.out.grow hg5)
        have q0 := b5.at 0
        have q1 := b5.at 1
        have y3 := (HX5.out.below HB1.out HX5.out.lt).at 3
        have hrk : v1.cell? ⟨br, or + k, none⟩ = some (.int .u64 (pv : Int)) := (HB1.out.cell HBr.out).trans HRk.out
        have hsk : v1.cell? ⟨bs, os + i0, none⟩ = some (.int .u64 (p0 : Int)) := (HB1.out.cell HBs.out).trans HSc.out
        have heb : br = bs := by injection hsa with h; injection h
        have heo : or = os := by injection hsa with h; injection h
        clear hsa
        subst heb
        subst heo
        clear b5
        go_quiet (fail)
        clear q0 q1 y3 hrk hsk w1
        have HPn : Hid (Pr (v1.drewN nq) w5.heap.size A c A' c' n (baseP m ++ segP m (k + 1))) := Lib.hid (by rw [EL.out, HNo.out, List.append_nil]; exact HP1.out.grow (Grow.of_drewN _ _))
        have HBn := Lib.hid (show Below w5.heap.size w5 (v1.drewN nq) from HB1.out.trans (Below.mono (Grow.of_drewN _ _) HB1.out.size))
        have HBx := Lib.hid (show Below w.heap.size w (v1.drewN nq) from grow_below HG5.out (Below.mono HBn.out HG5.out.size))
        have v8 := (HM5.out.below HBn.out HM5.out.lt).at 8
        have t0 : (v1.drewN nq).cell? ⟨b, off + k * 10, none⟩ = some (.int .u32 (s.typ : Nat)) := (HBx.out.cell HBb.out).trans (HC.out 0 _ rfl)
        go_wp2
        go_roundw
        case rel => exact ⟨k + 1, A, A', c, c', n, by omega, by go_num, rfl, rfl, HPn.out, HBn.out⟩
        case measure => simp [intOf]; omega
    · obtain rfl : n1 = k := by omega
      clear hk hlt HVa
      go_wp2_with fail
      clear v8
      apply HK.out
      clear HK
      apply wp_seq_k
      intro K hK
      have HK := Lib.hid hK
      clear hK
      have v9 := (HM5.out.below HBl.out HM5.out.lt).at 9
      go_wp2_with fail
      clear v9
      have HPs := Lib.hid (show Pr wr w5.heap.size A c A' c' n (baseP m ++ segP m n1 ++ secP m 0) from by rw [secP, List.append_nil]; exact HPr.out)
      generalize wr = wl at HPs HBl HSl HBw ⊢
      clear HBw
      have HPr0 := HPs
      clear HPr
      have HPr := HPr0
      clear HPr0
      go_loopw [9, 10, 13] (fun x y i wr => ∃ (k : Nat) (A A' : Option Addr) (c c' n : Nat), k ≤ n2 ∧ i = .int .i64 k ∧ x = .slice A n c ∧ y = .slice A' n c' ∧ Pr wr w5.heap.size A c A' c' n (baseP m ++ segP m n1 ++ secP m k) ∧ Below w5.heap.size w5 wr) (fun _ _ i _ => n2 - (intOf i).toNat)
      case atStart => exact ⟨0, A, A', c, c', n, by omega, rfl, rfl, rfl, HPs.out, HBl.out⟩
      case round =>
        obtain ⟨k, A, A', c, c', n, hk, rfl, rfl, rfl, hpr, hbl⟩ := hrel
        clear HPr HBl HSl
        have HPr := Lib.hid hpr
        have HBl := Lib.hid hbl
        have HSl := Lib.hid (show w5.heap.size ≤ wr.heap.size from hbl.size)
        have HBw := Lib.hid (show Below w.heap.size w wr from grow_below HG5.out (Below.mono hbl HG5.out.size))
        clear hpr hbl
        have v8 := (HM5.out.below HBl.out HM5.out.lt).at 9
        by_cases hlt : k < n2
        · have hkl : k < m.secs.length := by rw [← HL2.out]; exact hlt
          obtain ⟨b, off, rfl, hb⟩ := HZ2.out.pos (by omega)
          obtain ⟨Ak, nk, ck, -, hcell, -⟩ := HZ2.out.at hkl
          have hse : m.secs[k] = m.se k := by unfold Md.se; rw [List.getD_eq_getElem?_getD, List.getElem?_eq_getElem hkl]; rfl
          rw [hse] at hcell
          have HC := Lib.hid (show ∀ i v, (seC (m.se k) (.slice Ak nk ck))[i]? = some v → w.cell? ⟨b, off + k * 13 + i, none⟩ = some v from hcell)
          have HBb := Lib.hid (show b < w.heap.size from hb)
          obtain ⟨br, or, rfl, hbr, hrc⟩ := HCb5.out k hlt
          have HRk := Lib.hid (hrc k hlt)
          have HBr := Lib.hid hbr
          have hnk : n ≤ 3 + n1 + k := by
            have h1 := HPr.out.len
            have h2 := baseP_len m
            have h3 := segP_len m n1
            have h4 := secP_len m k
            simp only [List.length_append] at h1
            omega
          have EL := Lib.hid (show baseP m ++ segP m n1 ++ secP m (k + 1) = baseP m ++ segP m n1 ++ secP m k ++ ownT m k from by simp [secP])
          have HLt2 := Lib.hid (fun hi => HPl.out.P3_lt hkl hi)
          have HIn := Lib.hid (fun hi => HPl.out.sec_in hkl hi)
          have HOwn := Lib.hid (fun (hi : (m.se k).pl.inn = -1) => show ownT m k = [(m.P3 k, (m.se k).pl.size)] from by unfold ownT; rw [if_pos hi])
          have HNow := Lib.hid (fun (hi : (m.se k).pl.inn ≠ -1) => show ownT m k = [] from by unfold ownT; rw [if_neg hi])
          rw [← HL1.out] at HIn
          clear hcell hse hkl hb hbr hrc
          generalize m.se k = s at HC HLt2 HIn HOwn HNow
          unfold seC at HC
          have t9 : wr.cell? ⟨b, off + k * 13 + 9, none⟩ = some (.int .i64 s.pl.inn) := (HBw.out.cell HBb.out).trans (HC.out 9 _ rfl)
          have t10 : wr.cell? ⟨b, off + k * 13 + 10, none⟩ = some (.int .u64 (s.pl.off : Nat)) := (HBw.out.cell HBb.out).trans (HC.out 10 _ rfl)
          have t11 : wr.cell? ⟨b, off + k * 13 + 11, none⟩ = some (.int .u64 (s.pl.size : Nat)) := (HBw.out.cell HBb.out).trans (HC.out 11 _ rfl)
          have t12 : wr.cell? ⟨b, off + k * 13 + 12, none⟩ = some (.slice Ak nk ck) := (HBw.out.cell HBb.out).trans (HC.out 12 _ rfl)
          by_cases hi : s.pl.inn = -1
          · rw [hi] at t9
            have di : ((-1 : Int) == -1) = true := by decide
            have HOw := Lib.hid (HOwn.out hi)
            have HPv := Lib.hid (HLt2.out hi)
            clear hi HOwn HNow HIn HLt2
            obtain ⟨pv, hpv⟩ : ∃ q, m.P3 k = q := ⟨_, rfl⟩
            rw [hpv] at HRk HOw HPv
            clear hpv
            have hal : Grow wr (wr.alloc (.cells #[.int .i64 (-1), .int .u64 (s.pl.off : Nat), .int .u64 (s.pl.size : Nat), .slice Ak nk ck] 52)) := (blk1 rfl).2
            have hal2 : Grow wr ((wr.alloc (.cells #[.int .i64 (-1), .int .u64 (s.pl.off : Nat), .int .u64 (s.pl.size : Nat), .slice Ak nk ck] 52)).alloc (.cells #[.int .u64 (pv : Nat)] 28)) := (blk2 rfl).2.2
            have y3 := ((HX5.out.below HBl.out HX5.out.lt).grow hal).at 4
            have hrk : (wr.alloc (.cells #[.int .i64 (-1), .int .u64 (s.pl.off : Nat), .int .u64 (s.pl.size : Nat), .slice Ak nk ck] 52)).cell? ⟨br, or + k, none⟩ = some (.int .u64 (pv : Int)) := ((HBl.out.trans (Below.mono hal HSl.out)).cell HBr.out).trans HRk.out
            have HR3 : Hid (Blk ((wr.alloc (.cells #[.int .i64 (-1), .int .u64 (s.pl.off : Nat), .int .u64 (s.pl.size : Nat), .slice Ak nk ck] 52)).alloc (.cells #[.int .u64 (pv : Nat)] 28)) (wr.heap.size + 1) 28 #[.int .u64 (pv : Nat)]) := Lib.hid ((blk2 rfl).2.1)
            have HBp : Hid (Blk ((wr.alloc (.cells #[.int .i64 (-1), .int .u64 (s.pl.off : Nat), .int .u64 (s.pl.size : Nat), .slice Ak nk ck] 52)).alloc (.cells #[.int .u64 (pv : Nat)] 28)) wr.heap.size 52 #[.int .i64 (-1), .int .u64 (s.pl.off : Nat), .int .u64 (s.pl.size : Nat), .slice Ak nk ck]) := Lib.hid ((blk2 rfl).1)
            have HPB := Lib.hid (HPr.out.grow hal2)
            have HSB := Lib.hid (Nat.le_trans HSl.out hal2.size)
            have HBB := Lib.hid (HBl.out.trans (Below.mono hal2 HSl.out))
            have hltA := Lib.hid (fun g (hg : ownB A = some g) => (HPr.out.f.ltB hg).2)
            have hltA' := Lib.hid (fun g (hg : ownB A' = some g) => show g < wr.heap.size from (HPr.out.s.ltB hg).2)
            have hszB := Lib.hid (show wr.heap.size ≤ ((wr.alloc (.cells #[.int .i64 (-1), .int .u64 (s.pl.off : Nat), .int .u64 (s.pl.size : Nat), .slice Ak nk ck] 52)).alloc (.cells #[.int .u64 (pv : Nat)] 28)).heap.size from hal2.size)
            have hxb := Lib.hid (show c ≤ maxLen from HPr.out.f.ns.max)
            clear hal hal2
            skip
            go_wp2_with (at_builtin; refine wpList_append1P ((wr.alloc (.cells #[.int .i64 (-1), .int .u64 (s.pl.off : Nat), .int .u64 (s.pl.size : Nat), .slice Ak nk ck] 52)).alloc (.cells #[.int .u64 (pv : Nat)] 28)) rfl (.tmp 184) (.tmp 190) 35 rfl w5.heap.size 28 .u64 8 Try.underlying35 (by kernel_rfl) A n c _ rfl HPB.out.f _ _ pv rfl HR3.out (by unfold maxLen; omega) (by omega) HSB.out ?_; intro A2 d2 w9 ho hg hw; refine Hid.out ?_)
            clear y3 hrk di t9 t10 t11 t12 v8
            have HB9 := Lib.hid (show Below w5.heap.size w5 w9 from HBB.out.grown hg HSB.out (fun j hj => (HPB.out.f.ltB hj).1))
            have HS9 := Lib.hid (show w5.heap.size ≤ w9.heap.size from HB9.out.size)
            have HO29 := Lib.hid (HPB.out.s.grownBy hg (.inr (fun e => HPB.out.ap e.symm)))
            have HO19 := Lib.hid ho
            have HA9 := Lib.hid (show ownB A2 ≠ ownB A' from by
              rcases hw with e | e
              · rw [e]; exact HPB.out.ap
              · rw [e]
                intro e2
                have h1 := hltA'.out _ e2.symm
                have h2 := hszB.out
                omega)
            have HBp9 := Lib.hid (HBp.out.grownBy hg (fun e => by
              have := hltA.out _ e.symm
              omega))
            clear ho hg hw HPB HR3 HSB HBB HBp hszB hltA hltA'
            refine Lib.hid ?_
            have z2 := HBp9.out.at 2
            have ha3 : Grow w9 (w9.alloc (.cells #[.int .u64 (s.pl.size : Nat)] 28)) := Grow.of_alloc _ _
            have HR3 := Lib.hid (Blk.new w9 28 #[.int .u64 (s.pl.size : Nat)])
            have HO13 := Lib.hid (HO19.out.keep ha3)
            have HO23 := Lib.hid (HO29.out.keep ha3)
            have HS8 := Lib.hid (Nat.le_trans HS9.out ha3.size)
            have HB8 := Lib.hid (HB9.out.trans (Below.mono ha3 HS9.out))
            have hlt8 := Lib.hid (fun g (hg : ownB A2 = some g) => show g < (w9.alloc (.cells #[.int .u64 (s.pl.size : Nat)] 28)).heap.size from (HO13.out.ltB hg).2)
            clear ha3
            go_wp2_with (at_builtin; refine wpList_append1P (w9.alloc (.cells #[.int .u64 (s.pl.size : Nat)] 28)) rfl (.tmp 192) (.tmp 195) 35 rfl w5.heap.size 28 .u64 8 Try.underlying35 (by kernel_rfl) A' n c' _ rfl HO23.out _ _ s.pl.size rfl HR3.out (by unfold maxLen; omega) (by omega) HS8.out ?_; intro A3 d3 wn ho hg hw; refine Hid.out ?_)
            have HBn := Lib.hid (show Below w5.heap.size w5 wn from HB8.out.grown hg HS8.out (fun j hj => (HO23.out.ltB hj).1))
            have HO1n := Lib.hid (HO13.out.grownBy hg (.inr HA9.out))
            have HPn : Hid (Pr wn w5.heap.size A2 d2 A3 d3 (n + 1) (baseP m ++ segP m n1 ++ secP m (k + 1))) := Lib.hid ⟨by rw [EL.out, HOw.out, List.length_append, ← HPr.out.len]; rfl, by rw [EL.out, HOw.out, List.map_append]; exact HO1n.out, by rw [EL.out, HOw.out, List.map_append]; exact ho, by
              rcases hw with e | e
              · rw [e]; exact HA9.out
              · rw [e]
                intro e2
                exact absurd (hlt8.out _ e2) (Nat.lt_irrefl _)⟩
            clear ho hg hw HO13 HO23 HR3 HS8 HB8 hlt8 HO19 HO29 HB9 HS9 HA9 HO1n z2 HBp9 HPr HBl HSl HBw HOw EL
            refine Lib.hid ?_
            go_wp2
            go_roundw
            case rel => exact ⟨k + 1, A2, A3, d2, d3, n + 1, by omega, by go_num, rfl, rfl, HPn.out, HBn.out⟩
            case measure => simp [intOf]; omega
          · obtain ⟨i0, hi0, hin, heq, hpl⟩ := HIn.out hi
            have di : (s.pl.inn == -1) = false := by rw [hi0]; simp
            rw [hi0] at di t9
            have HNo := Lib.hid (HNow.out hi)
            obtain ⟨pv, hpv⟩ : ∃ q, m.P3 k = q := ⟨_, rfl⟩
            rw [hpv] at HRk heq hpl
            have w1 : IntKind.u64.wrap ((m.P2 i0 : Int) + (s.pl.off : Int)) = (pv : Int) := by rw [IntKind.wrap_u64]; omega
            obtain ⟨bs, os, rfl, hbs, hsc⟩ := HCa5.out i0 hin
            have HSc := Lib.hid (hsc i0 hin)
            have HBs := Lib.hid hbs
            generalize m.P2 i0 = p0 at w1 HSc
            clear hi hi0 heq hpl hpv HIn HOwn HNow HLt2 hbs hsc
            have w2 : ((pv : Int) != (pv : Int)) = false := by simp
            go_wp2_with fail
            generalize hW : World.alloc _ _ = v1
            obtain ⟨b5, hg5⟩ := blk1 hW
            clear hW t9 t10 t11 t12 di v8
            have HB1 := Lib.hid (show Below w5.heap.size w5 v1 from HBl.out.trans (Below.mono hg5 HSl.out))
            have HP1 := Lib.hid (HPr.out.grow hg5)
            have q0 := b5.at 0
            have q1 := b5.at 1
            have y3 := (HX5.out.below HB1.out HX5.out.lt).at 3
            have y4 := (HX5.out.below HB1.out HX5.out.lt).at 4
            have hrk : v1.cell? ⟨br, or + k, none⟩ = some (.int .u64 (pv : Int)) := (HB1.out.cell HBr.out).trans HRk.out
            have hsk : v1.cell? ⟨bs, os + i0, none⟩ = some (.int .u64 (p0 : Int)) := (HB1.out.cell HBs.out).trans HSc.out
            clear b5
            go_quiet (fail)
            clear q0 q1 y3 hrk hsk w1 y4
            have HPn : Hid (Pr (v1.drewN nq) w5.heap.size A c A' c' n (baseP m ++ segP m n1 ++ secP m (k + 1))) := Lib.hid (by rw [EL.out, HNo.out, List.append_nil]; exact HP1.out.grow (Grow.of_drewN _ _))
            have HBn := Lib.hid (show Below w5.heap.size w5 (v1.drewN nq) from HB1.out.trans (Below.mono (Grow.of_drewN _ _) HB1.out.size))
            go_wp2
            go_roundw
            case rel => exact ⟨k + 1, A, A', c, c', n, by omega, by go_num, rfl, rfl, HPn.out, HBn.out⟩
            case measure => simp [intOf]; omega
        · obtain rfl : n2 = k := by omega
          clear hk hlt HPs
          go_wp2_with fail
          clear v8
          apply HK.out
          clear HK
          apply wp_seq_k
          intro K hK
          have HK := Lib.hid hK
          clear hK
          have HPf := Lib.hid (show Pr wr w5.heap.size A c A' c' n (allP m) from by unfold allP; rw [← HL1.out, ← HL2.out]; exact HPr.out)
          have HNl := Lib.hid HPf.out.len
          have HN83 := Lib.hid (show n ≤ 83 from by rw [HNl.out]; exact allP_len m HPl.out)
          have HX6 := Lib.hid (HX5.out.below HBl.out HX5.out.lt)
          have HG6 := Lib.hid (show Below w.heap.size w wr from grow_below HG5.out (Below.mono HBl.out HG5.out.size))
          clear HPr HBl HSl HBw HX5 HM5 HG5 HZ1 HZ2 HCa5 HCb5
          have HWt := Lib.hid (fun (k : Nat) (hk : k < n) => HPl.out.within (k := k) (by rw [← HNl.out]; exact hk))
          have HMt := Lib.hid (fun (i k : Nat) (hik : i < k) (hk : k < n) => HPl.out.pair hik (by rw [← HNl.out]; exact hk))
          rw [HEt.out] at HWt
          have HE65 := Lib.hid (show et ≤ 65536 from by rw [← HEt.out]; exact HPl.out.fits)
          clear HPl HEt HL1 HL2
          generalize allP m = L at HPf HWt HMt HNl
          go_wp2_with fail
          generalize wr = wl at HPf HX6 HG6 ⊢
          go_loopw [15] (fun i wr => ∃ k : Nat, k ≤ n ∧ i = .int .i64 k ∧ Grow wl wr) (fun i _ => n - (intOf i).toNat)
          case atStart => exact ⟨0, by omega, rfl, Grow.refl _⟩
          case round =>
            obtain ⟨k, hk, rfl, hg⟩ := hrel
            have HGk := Lib.hid hg
            clear hg
            by_cases hlt : k < n
            · obtain ⟨bf, of_, bs, os, rfl, rfl, hbf, hbs, hcl⟩ := HPf.out.cells (by omega)
              have HCl := Lib.hid hcl
              have HBf := Lib.hid hbf
              have HBs := Lib.hid hbs
              have hn83 := HN83.out
              have HCk := Lib.hid (hcl k hlt)
              obtain ⟨hw1, hw2⟩ := HWt.out k hlt
              have HWi := Lib.hid (fun w => refWithin_any ((L.getD k (0, 0)).1 : Int) ((L.getD k (0, 0)).2 : Int) (et : Int) w (by omega) (by omega) (by omega))
              have hwt : wthn ((L.getD k (0, 0)).1 : Int) ((L.getD k (0, 0)).2 : Int) (et : Int) = true := decide_eq_true (by omega)
              rw [hwt] at HWi
              have HMk := Lib.hid (fun i hik => HMt.out i k hik hlt)
              have HWk := Lib.hid (HWt.out k hlt)
              clear hcl hbf hbs hw1 hw2 hwt
              generalize L.getD k (0, 0) = x at HCk HWi HMk HWk
              have HX1 := Lib.hid HCk.out.1
              have HX2 := Lib.hid HCk.out.2
              clear HCk
              generalize x.1 = xf at HX1 HWi HMk HWk
              generalize x.2 = xs at HX2 HWi HMk HWk
              go_wp2_with fail
              refine wp_region_chain [(0, true), (1, true), (2, true), (3, true), (4, true), (5, true), (6, true), (7, true), (8, true), (9, true), (10, false), (11, true)] (by kernel_rfl) (by kernel_rfl) (by kernel_rfl) ?_
              have HD : Hid (Grow wl wr.drew) := HGk.out.trans (Grow.of_drew _)
              clear HGk
              generalize wr.drew = v0 at HD ⊢
              have p0 : ∀ W, Grow v0 W → W.cell? ⟨bf, of_ + k, none⟩ = some (.int .u64 (xf : Nat)) := fun W hW => (Below.cell (HD.out.trans hW) HBf.out).trans HX1.out
              have p1 : ∀ W, Grow v0 W → W.cell? ⟨bs, os + k, none⟩ = some (.int .u64 (xs : Nat)) := fun W hW => (Below.cell (HD.out.trans hW) HBs.out).trans HX2.out
              have p2 : ∀ W, Grow v0 W → W.cell? ⟨gx, 2, none⟩ = some (.int .u64 (et : Nat)) := fun W hW => (HX6.out.grow (HD.out.trans hW)).at 2
              repeat (first | (refine chain_take rfl (by rfl) ?_ (fun W hG => ?_) ?_; rotate_left; (go_simp; rfl); simp only [Act.put, List.setIfInBounds_toArray, List.set_cons_zero, List.set_cons_succ]) | (refine chain_skip rfl (by rfl) ?_; simp only [Act.put, List.setIfInBounds_toArray, List.set_cons_zero, List.set_cons_succ]))
              clear p0 p1 p2
              refine chain_only rfl (by rfl) (fun K hK => ?_)
              go_simp
              refine (HWi.out _).mono ?_
              rintro e w9 ⟨rfl, rfl⟩
              refine hK _ _ (Grow.refl _) ?_
              clear hK K HWi
              repeat (first | (refine chain_take rfl (by rfl) ?_ (fun W hG => ?_) ?_; rotate_left; (go_simp; rfl); simp only [Act.put, List.setIfInBounds_toArray, List.set_cons_zero, List.set_cons_succ]) | (refine chain_skip rfl (by rfl) ?_; simp only [Act.put, List.setIfInBounds_toArray, List.set_cons_zero, List.set_cons_succ]))
              refine chain_done ?_
              go_wp2_with fail
              generalize v0 = v2 at HD ⊢
              go_loopw [17] (fun i wr => ∃ q : Nat, q ≤ k ∧ i = .int .i64 q ∧ Grow wl wr) (fun i _ => k - (intOf i).toNat)
              case atStart => exact ⟨0, by omega, rfl, HD.out⟩
              case round =>
                obtain ⟨q, hq, rfl, hg⟩ := hrel
                clear HD
                have HGq := Lib.hid hg
                clear hg
                by_cases hlq : q < k
                · have hqn : q < n := by omega
                  have HCq := Lib.hid (HCl.out q hqn)
                  have HWq := Lib.hid (HWt.out q hqn)
                  have HMq := Lib.hid (HMk.out q hlq)
                  generalize L.getD q (0, 0) = y at HCq HWq HMq
                  have HY1 := Lib.hid HCq.out.1
                  have HY2 := Lib.hid HCq.out.2
                  clear HCq
                  generalize y.1 = yf at HY1 HWq HMq
                  generalize y.2 = ys at HY2 HWq HMq
                  have HMe := Lib.hid (fun w => refMeet_any yf ys xf xs w (by have := HWq.out; omega) (by have := HWq.out; omega) (by have := HWk.out; omega) (by have := HWk.out; omega))
                  rw [HMq.out] at HMe
                  go_wp2_with fail
                  refine wp_region_chain [(0, true), (1, true), (2, true), (3, true), (4, true), (5, true), (6, true), (7, true), (8, true), (9, true), (10, true), (11, true), (12, true), (13, true), (14, true), (15, true), (16, false), (17, true)] (by kernel_rfl) (by kernel_rfl) (by kernel_rfl) ?_
                  have HD : Hid (Grow wl wr.drew) := HGq.out.trans (Grow.of_drew _)
                  clear HGq
                  generalize wr.drew = v0 at HD ⊢
                  have p0 : ∀ W, Grow v0 W → W.cell? ⟨bf, of_ + k, none⟩ = some (.int .u64 (xf : Nat)) := fun W hW => (Below.cell (HD.out.trans hW) HBf.out).trans HX1.out
                  have p1 : ∀ W, Grow v0 W → W.cell? ⟨bs, os + k, none⟩ = some (.int .u64 (xs : Nat)) := fun W hW => (Below.cell (HD.out.trans hW) HBs.out).trans HX2.out
                  have p2 : ∀ W, Grow v0 W → W.cell? ⟨bf, of_ + q, none⟩ = some (.int .u64 (yf : Nat)) := fun W hW => (Below.cell (HD.out.trans hW) HBf.out).trans HY1.out
                  have p3 : ∀ W, Grow v0 W → W.cell? ⟨bs, os + q, none⟩ = some (.int .u64 (ys : Nat)) := fun W hW => (Below.cell (HD.out.trans hW) HBs.out).trans HY2.out
                  repeat (first | (refine chain_take rfl (by rfl) ?_ (fun W hG => ?_) ?_; rotate_left; (go_simp; rfl); simp only [Act.put, List.setIfInBounds_toArray, List.set_cons_zero, List.set_cons_succ]) | (refine chain_skip rfl (by rfl) ?_; simp only [Act.put, List.setIfInBounds_toArray, List.set_cons_zero, List.set_cons_succ]))
                  clear p0 p1 p2 p3
                  refine chain_only rfl (by rfl) (fun K hK => ?_)
                  go_simp
                  refine (HMe.out _).mono ?_
                  rintro e w9 ⟨rfl, rfl⟩
                  refine hK _ _ (Grow.refl _) ?_
                  clear hK K HMe
                  repeat (first | (refine chain_take rfl (by rfl) ?_ (fun W hG => ?_) ?_; rotate_left; (go_simp; rfl); simp only [Act.put, List.setIfInBounds_toArray, List.set_cons_zero, List.set_cons_succ]) | (refine chain_skip rfl (by rfl) ?_; simp only [Act.put, List.setIfInBounds_toArray, List.set_cons_zero, List.set_cons_succ]))
                  refine chain_done ?_
                  go_wp2
                  go_roundw
                  case rel => exact ⟨q + 1, by omega, by go_num, HD.out⟩
                  case measure => simp [intOf]; omega
                · obtain rfl : k = q := by omega
                  go_wp2
                  go_roundw
                  case rel => exact ⟨k + 1, by omega, by go_num, HGq.out⟩
                  case measure => simp [intOf]; omega
            · obtain rfl : n = k := by omega
              clear hk hlt
              go_wp2_with fail
              apply HK.out
              clear HK
              have y2 := (HX6.out.grow HGk.out).at 2
              have d2 : decide (et ≤ 65536) = true := decide_eq_true HE65.out
              have d2' : decide ((et : Int) ≤ 65536) = true := decide_eq_true (by have := HE65.out; omega)
              go_wp2
              go_ret
              exact ⟨rfl, grow_below HG6.out (Below.mono HGk.out HG6.out.size)⟩
end Go.Proofs.Ythebemikhjglbaa
