/-
  Several texts in one: The contract of the document's own Encode, with sections.
-/
import Derived.Test.YtlccbekalccahaaGreatDoorFeH26
import Derived.Test.YtlccbekalccahaaGreatDoorFeH24

namespace Go.Proofs.YtlccbekalccahaaGreatDoor
open Go.RowKit
set_option maxRecDepth 100000
set_option linter.unusedVariables false

set_option maxHeartbeats 20000000 in
theorem rEnc_pos (m : Md) (ok : m.Ok) (A1 A2 : Option Addr) (n1 c1 n2 c2 : Nat) (w : World) (g1 : ZR sgK w w.heap.size A1 n1 c1 m.segs) (g2 : ZR seK w w.heap.size A2 n2 c2 m.secs) (hz0 : 0 < n2) :
    Calls Tryz.prog 9 #[.agg (mdC m (.slice A1 n1 c1) (.slice A2 n2 c2))] w (REncR m w) := by
  have HZ0 := Lib.hid hz0
  clear hz0
  have HPl := Lib.hid (fun W (hg : Grow w W) => rPlan_any m ok A1 A2 n1 c1 n2 c2 W (g1.grow hg) (g2.grow hg))
  unfold RPlanR at HPl
  have HGd : Hid (m.planC = 0 → Good m) := Lib.hid fun h => ⟨ok, h, g1.owns, g2.owns⟩
  have HD : Hid (m.planC = 0 → m.planD = ⟨m.phoff, m.shoff, m.eT, (List.range m.segs.length).map m.P2, (List.range m.secs.length).map m.P3⟩) := Lib.hid fun h => by unfold Md.planD; rw [if_pos h]
  have HLen1 := Lib.hid g1.len
  have HLen2 := Lib.hid g2.len
  have HZ1 := Lib.hid g1
  have HZ2 := Lib.hid g2
  have hz1 := g1.max
  have hz1c := g1.cap
  have hz2 := g2.max
  have hz2c := g2.cap
  unfold maxLen at hz1 hz2
  clear g1 g2
  obtain ⟨o, a, ty, ma, fl, en, hC, hV⟩ : ∃ o a ty ma fl en : Int, (∀ s t, mdC m s t = #[.bool m.wide, .bool m.big, .int .u8 o, .int .u8 a, .int .u16 ty, .int .u16 ma, .int .u32 fl, .int .u64 en, s, t, .int .i64 m.str]) ∧
      (Good m → m.hd.V = .agg #[.bool m.wide, .bool m.big, .int .u8 o, .int .u8 a, .int .u16 ty, .int .u16 ma, .int .u64 en, .int .u64 (m.phoff : Nat), .int .u64 (m.shoff : Nat), .int .u32 fl, .int .u16 (m.segs.length : Nat), .int .u16 ((if 0 < m.secs.length then m.secs.length + 1 else 0 : Nat) : Int), .int .u16 m.str]) := by
    refine ⟨m.osabi, m.abi, m.typ, m.mach, m.flags, m.entry, fun _ _ => rfl, fun h => ?_⟩
    have hs := h.str
    have e : m.str = ((m.str.toNat : Nat) : Int) := by omega
    unfold Hd.V Hd.C Md.hd
    simp only []
    rw [u8_of _ h.ok.osabi, u8_of _ h.ok.abi, ← e]
  have HV := Lib.hid hV
  simp only [hC] at HPl ⊢
  clear hC hV ok
  unfold REncR
  obtain ⟨C, hCe⟩ : ∃ C, m.planC = C := ⟨_, rfl⟩
  have HCe := Lib.hid hCe
  rw [hCe] at HPl HGd HD ⊢
  clear hCe
  obtain ⟨wide, hw⟩ : ∃ x, x = m.wide := ⟨_, rfl⟩
  obtain ⟨big, hb⟩ : ∃ x, x = m.big := ⟨_, rfl⟩
  obtain ⟨st, hst⟩ : ∃ x, x = m.str := ⟨_, rfl⟩
  have HWi := Lib.hid hw
  have HBi := Lib.hid hb
  have HSt := Lib.hid hst
  rw [← hw, ← hb, ← hst] at HPl HV ⊢
  clear hw hb hst
  go_enter Tryz.func9, Tryz.ntmps9
  go_wp2_with fail
  generalize hW : World.alloc _ _ = W0
  obtain ⟨b0, hg⟩ := blk1 hW
  clear hW
  refine (HPl.out _ hg).mono ?_
  rintro e w1 ⟨cs, rfl, ⟨A0, n0, c0, A', n', c', rfl, h1, h2⟩, hg1⟩
  have HM := Lib.hid (b0.grow hg1)
  have HG : Hid (Grow w w1) := Lib.hid (hg.trans hg1)
  have HN1 := Lib.hid h1
  have HN2 := Lib.hid h2
  clear b0 hg hg1 h1 h2 HPl
  by_cases h0 : C = 0
  rotate_left
  · have d : ((C : Int) != 0) = true := by simp; omega
    have HC0 := Lib.hid h0
    clear h0 HD HGd HN1 HN2
    generalize m.planD = D
    go_wp2
    go_ret2
    exact .inr ⟨HC0.out, rfl, HG.out.trans (Grow.of_alloc _ _)⟩
  have HC1 := Lib.hid h0
  rw [h0] at HGd HD ⊢
  have hD := HD.out rfl
  rw [hD] at HN1 HN2 ⊢
  simp only [] at HN1 HN2 ⊢
  have HGo := Lib.hid (HGd.out rfl)
  have HV2 := Lib.hid (HV.out HGo.out)
  clear h0 hD HD HGd HV HCe
  obtain ⟨ph, hph⟩ : ∃ x, m.phoff = x := ⟨_, rfl⟩
  obtain ⟨sh, hsh⟩ : ∃ x, m.shoff = x := ⟨_, rfl⟩
  obtain ⟨T, hT⟩ : ∃ x, m.eT = x := ⟨_, rfl⟩
  have HPh := Lib.hid hph
  have HSh := Lib.hid hsh
  have HT := Lib.hid hT
  rw [hph, hsh] at HV2
  rw [hph, hsh, hT]
  clear hph hsh hT
  have hk1 : n1 ≤ 16 := by have := HGo.out.n1; have := HLen1.out; omega
  have hk2 : n2 ≤ 64 := by have := HGo.out.n2; have := HLen2.out; omega
  have hk3 : 0 ≤ st ∧ st ≤ 64 := by have := HGo.out.str; have := HGo.out.n2; have := HSt.out; omega
  rw [← HLen1.out, ← HLen2.out] at HV2
  have u1 : IntKind.u16.wrap (n1 : Int) = (n1 : Int) := by rw [IntKind.wrap_u16]; omega
  have u2 : IntKind.u16.wrap ((n2 : Int) + 1) = (n2 : Int) + 1 := by rw [IntKind.wrap_u16]; omega
  have u3 : IntKind.u16.wrap st = st := by rw [IntKind.wrap_u16]; omega
  have u4 : IntKind.i64.wrap ((n2 : Int) + 1) = (n2 : Int) + 1 := by rw [IntKind.wrap_i64]; omega
  have hba := HM.out.alloc (.cells #[.int .u64 (ph : Int), .int .u64 (sh : Int), .int .u64 (T : Int), .slice A0 n0 c0, .slice A' n' c'] 65)
  have hpa : Blk (w1.alloc (.cells #[.int .u64 (ph : Int), .int .u64 (sh : Int), .int .u64 (T : Int), .slice A0 n0 c0, .slice A' n' c'] 65)) w1.heap.size 65 _ := Blk.new w1 _ _
  obtain ⟨v0, v1, v2, v3, v4, v5, v6, v7, v8, v9, v10⟩ := hba.c11
  have hbb := hba.alloc (.cells #[.bool wide, .bool big] 23)
  have hpb := hpa.alloc (.cells #[.bool wide, .bool big] 23)
  obtain ⟨y0, y1, y2, y3, y4, y5, y6, y7, y8, y9, y10⟩ := hbb.c11
  have q0 := hpb.at 0
  have q1 := hpb.at 1
  have hbc := hbb.alloc (.cells #[.bool wide, .bool big, .int .u8 o, .int .u8 a, .int .u16 ty, .int .u16 ma, .int .u64 en, .int .u64 (ph : Int), .int .u64 (sh : Int), .int .u32 fl, .int .u16 (n1 : Int), .int .u16 0, .int .u16 st] 69)
  have z9 := hbc.at 9
  clear hba hpa hbb hpb hbc
  have d0 : decide ((0 : Int) < (n2 : Int)) = true := decide_eq_true (by have := HZ0.out; omega)
  have d0n : decide (0 < n2) = true := decide_eq_true (by have := HZ0.out; omega)
  have eSn : (((if 0 < n2 then n2 + 1 else 0 : Nat)) : Int) = ((n2 : Int) + 1) := by have := HZ0.out; split <;> omega
  have HHp : Hid (∀ W, Calls Tryz.prog 19 #[.agg #[.bool wide, .bool big, .int .u8 o, .int .u8 a, .int .u16 ty, .int .u16 ma, .int .u64 en, .int .u64 (ph : Int), .int .u64 (sh : Int), .int .u32 fl, .int .u16 (n1 : Int), .int .u16 ((n2 : Int) + 1), .int .u16 st]] W fun e w' => ∃ A c, e = .returned (.tuple #[.slice A m.hd.L.length c, .bool true]) ∧ RB w' w'.heap.size A m.hd.L.length c m.hd.L ∧ Grow W w') := Lib.hid fun W => by
    have h := rPut_any m.hd HGo.out.hdOk W
    rw [HV2.out, eSn] at h
    refine Calls.mono h ?_
    rintro e w' (⟨_, A, c, e1, e2, e3⟩ | ⟨hf, _⟩)
    · exact ⟨A, c, e1, e2.rb, e3⟩
    · rw [HGo.out.hdFits] at hf; cases hf
  have HSz := Lib.hid (fun W => sizes_any wide big W)
  clear eSn HV2
  go_wp2_with fail
  clear v0 v1 v2 v3 v4 v5 v6 v7 v8 v9 v10 y0 y1 y2 y3 y4 y5 y6 y7 y8 y9 y10 q0 q1 z9 d0 d0n u1 u2 u3 u4
  generalize hW : World.alloc _ _ = W2
  obtain ⟨bp, bf, -, hg⟩ := blk3 hW
  clear hW
  have HS : Hid (RS w W2 w.heap.size w1.heap.size (w1.heap.size + 1) 32 65 23 _ _ _) := Lib.hid ⟨HM.out.grow hg, bp, bf, HG.out.trans hg⟩
  have HW1 : Hid (Grow w1 W2) := Lib.hid hg
  clear bp bf hg HM HG
  generalize w1.heap.size + 1 + 1 = gh
  generalize w1.heap.size + 1 = gf at HS ⊢
  obtain ⟨gp, hgp⟩ : ∃ g, g = w1.heap.size := ⟨_, rfl⟩
  rw [← hgp] at HS ⊢
  obtain ⟨gm, hgm⟩ : ∃ g, g = w.heap.size := ⟨_, rfl⟩
  rw [← hgm] at HS ⊢
  clear hgp hgm
  refine (HHp.out _).mono ?_
  rintro e w2 ⟨Ah, ch, rfl, hrb, hg⟩
  have HS2 := Lib.hid (HS.out.grow hg)
  have HW2 : Hid (Grow w1 w2) := Lib.hid (HW1.out.trans hg)
  have HRb := Lib.hid hrb
  clear hrb hg HS HW1 HHp
  have f0 := HS2.out.f.at 0
  have f1 := HS2.out.f.at 1
  go_wp2_with fail
  clear f0 f1
  refine (HSz.out _).mono ?_
  rintro e w3 ⟨rfl, hg⟩
  have HS3 := Lib.hid (HS2.out.grow hg)
  have HW3 : Hid (Grow w1 w3) := Lib.hid (HW2.out.trans hg)
  have HRb3 := Lib.hid ((HRb.out.belowAt hg (Nat.le_refl _)).more hg.size)
  clear hg HS2 HW2 HRb HSz
  have HLd : Hid (Laid (Stg m 0 0 0 0) m.hd.L ∧ m.hd.L.length ≤ T) := Lib.hid (by
    refine ⟨?_, ?_⟩
    · have h1 := first_laid (m := m) (Laid.none m.hd.L.length) (by simp)
      have h2 : put (List.replicate m.hd.L.length 0) 0 m.hd.L = m.hd.L := by unfold put; simp
      rwa [h2] at h1
    · have h1 := HGo.out.planned.order
      have h2 : m.hd.L.length = hSize m.wide := m.hd.lenL
      have h4 := HT.out
      omega)
  generalize m.hd.L = L0 at HLd HRb3 ⊢
  obtain ⟨S1, hS1⟩ : ∃ x, x = byWide wide 32 56 := ⟨_, rfl⟩
  obtain ⟨S2, hS2⟩ : ∃ x, x = byWide wide 40 64 := ⟨_, rfl⟩
  have HS1 := Lib.hid hS1
  have HS2e := Lib.hid hS2
  rw [← hS1, ← hS2]
  clear hS1 hS2
  go_wp2_with fail
  go_loopw [8, 13] (fun x i wr => ∃ (k : Nat) (A : Option Addr) (c : Nat) (L : List UInt8), k ≤ n1 ∧ i = .int .i64 k ∧ x = .slice A L.length c ∧ RB wr wr.heap.size A L.length c L ∧ RS w wr gm gp gf 32 65 23 #[.bool wide, .bool big, .int .u8 o, .int .u8 a, .int .u16 ty, .int .u16 ma, .int .u32 fl, .int .u64 en, .slice A1 n1 c1, .slice A2 n2 c2, .int .i64 st] #[.int .u64 (ph : Int), .int .u64 (sh : Int), .int .u64 (T : Int), .slice A0 n0 c0, .slice A' n' c'] #[.bool wide, .bool big] ∧ Grow w1 wr ∧ Laid (Stg m k 0 0 0) L ∧ L.length ≤ T) (fun _ i _ => n1 - (intOf i).toNat)
  case atStart => exact ⟨0, Ah, ch, L0, by omega, rfl, rfl, HRb3.out, HS3.out, HW3.out, HLd.out.1, HLd.out.2⟩
  case round =>
    obtain ⟨k, Ax, cx, L, hk, rfl, rfl, hrb, hrs, hw1, hla, hlen⟩ := hrel
    clear HRb3 HS3 HW3 HLd
    have HR4 := Lib.hid hrb
    have HS4 := Lib.hid hrs
    have HW4 := Lib.hid hw1
    have HLk := Lib.hid hla
    have HLn := Lib.hid hlen
    clear hrb hrs hw1 hla hlen
    by_cases hlt : k < n1
    · have hkl : k < m.segs.length := by rw [← HLen1.out]; exact hlt
      obtain ⟨b, off, hAA, hb⟩ := HZ1.out.pos (by omega)
      obtain ⟨br, offr, hAR, hbr, hcr⟩ := HN1.out.pos (by have := HN1.out.len; simp at this; omega)
      subst hAA
      subst hAR
      obtain ⟨Ak, nk, ck, -, hcell, gk⟩ := HZ1.out.at hkl
      have hse : m.segs[k] = m.sg k := by unfold Md.sg; rw [List.getD_eq_getElem?_getD, List.getElem?_eq_getElem hkl]; rfl
      rw [hse] at hcell
      have hcell' : ∀ i v, (sgC (m.sg k) (.slice Ak nk ck))[i]? = some v → wr.cell? ⟨b, off + k * 10 + i, none⟩ = some v := fun i v hv => (Below.cell HS4.out.w hb).trans (hcell i v hv)
      have hcrk := hcr k (by simpa using hkl)
      simp only [List.getElem_map, List.getElem_range] at hcrk
      have HRow : Hid (wr.cell? ⟨br, offr + k, none⟩ = some (.int .u64 (m.P2 k : Int))) := Lib.hid ((Below.cell HW4.out hbr).trans hcrk)
      have HBr := Lib.hid (Nat.lt_of_lt_of_le hbr HW4.out.size)
      have HNr : Hid (k < n0) := Lib.hid (by have := HN1.out.len; simp at this; omega)
      have HPp : Hid (∀ W, Calls Tryz.prog 21 #[(m.pg k).V, .agg #[.bool wide, .bool big]] W fun e w' => ∃ A c v, e = .returned (.tuple #[.slice A ((m.pg k).L wide big).length c, .bool v]) ∧ RB w' w'.heap.size A ((m.pg k).L wide big).length c ((m.pg k).L wide big) ∧ Grow W w') := Lib.hid fun W => (rPutProg_any (m.pg k) (HGo.out.pgOk hkl) wide big W).mono fun e w' hp => by
        obtain ⟨A, c, e1, e2, e3⟩ := hp
        exact ⟨A, c, _, e1, e2.rb, e3⟩
      have hS1 : S1 ≤ 56 := by rw [HS1.out]; cases wide <;> decide
      have hph : ph ≤ 64 := by rw [← HPh.out]; exact HGo.out.phoff_le
      have hTm : T ≤ 65536 := by rw [← HT.out]; exact HGo.out.eT
      obtain ⟨q, hq⟩ : ∃ q, q = S1 * k := ⟨_, rfl⟩
      have hq1 : q ≤ 1000 := by rw [hq]; exact Nat.le_trans (Nat.mul_le_mul hS1 (show k ≤ 16 by omega)) (by decide)
      have HZk : Hid (ph + q + ((m.pg k).L wide big).length ≤ T) := Lib.hid (by
        have h1 := (HGo.out.z1 hkl).2
        have h2 := HGo.out.planned.order
        have h3 := HT.out
        have e : k * pSize m.wide = q := by rw [hq, HS1.out, ← HWi.out, Nat.mul_comm]; rfl
        rw [e, HPh.out, ← HWi.out, ← HBi.out] at h1
        omega)
      have HLkE : Hid (∀ L, Laid (Stg m k 0 0 0) L → ph + q + ((m.pg k).L wide big).length ≤ L.length → Laid (Stg m (k + 1) 0 0 0) (put L (ph + q) ((m.pg k).L wide big))) := Lib.hid fun L h1 h2 => by
        have e : k * pSize m.wide = q := by rw [hq, HS1.out, ← HWi.out, Nat.mul_comm]; rfl
        have h3 := HGo.out.putA h1 hkl (Nat.zero_le _) (Nat.zero_le _) (Nat.zero_le _)
        rw [e, HPh.out, ← HWi.out, ← HBi.out] at h3
        exact h3 h2
      have e1 : IntKind.i64.wrap ((S1 : Int) * (k : Int)) = (q : Int) := by
        rw [show (S1 : Int) * (k : Int) = (q : Int) by rw [hq]; push_cast; rfl, IntKind.wrap_i64]; omega
      have e2 : IntKind.u64.wrap (q : Int) = (q : Int) := by rw [IntKind.wrap_u64]; omega
      have e3 : IntKind.u64.wrap ((ph : Int) + (q : Int)) = ((ph + q : Nat) : Int) := by rw [IntKind.wrap_u64]; omega
      have HE := Lib.hid (show _ ∧ _ ∧ _ from ⟨e1, e2, e3⟩)
      have HTm := Lib.hid hTm
      clear hcr hcrk hbr hcell gk hkl hse hq hq1 hS1 hph hTm e1 e2 e3
      unfold sgC at hcell'
      generalize (m.pg k).L wide big = pl at HPp HLkE HZk
      unfold Pg.V Pg.C Md.pg at HPp
      simp only [] at HPp
      generalize m.P2 k = pk at HPp HRow
      generalize m.sg k = s at hcell' HPp
      have t0 : wr.cell? ⟨b, off + k * 10, none⟩ = _ := hcell' 0 _ rfl
      have t1 := hcell' 1 _ rfl
      have t2 := hcell' 2 _ rfl
      have t3 := hcell' 3 _ rfl
      have t4 := hcell' 4 _ rfl
      have t5 := hcell' 5 _ rfl
      have t6 := hcell' 6 _ rfl
      have t7 := hcell' 7 _ rfl
      have t8 := hcell' 8 _ rfl
      have t9 := hcell' 9 _ rfl
      have v8 := HS4.out.m.at 8
      clear hcell'
      go_wp2_with fail
      refine wp_region_chain [(0, true), (1, true), (2, true), (3, true), (4, true), (5, true), (6, true), (7, true), (8, true), (9, true), (10, true), (11, true), (12, true), (13, true), (14, true), (15, true), (16, true), (17, true), (18, true), (19, true), (20, true), (21, true), (22, false), (23, true), (24, true), (25, true), (26, true), (27, true)] (by kernel_rfl) (by kernel_rfl) (by kernel_rfl) ?_
      generalize hW : World.alloc _ _ = W5
      obtain ⟨b5, hg5⟩ := blk1 hW
      clear hW t0 t1 t2 t3 t4 t5 t6 t7 t8 t9 v8
      have hgd : Grow wr W5.drew := hg5.trans (Grow.of_drew _)
      have HR5 := Lib.hid ((HR4.out.belowAt hgd (Nat.le_refl _)).more hgd.size)
      have HS5 := Lib.hid (HS4.out.grow hgd)
      have HW5 : Hid (Grow w1 W5.drew) := Lib.hid (HW4.out.trans hgd)
      have HB5 := Lib.hid b5.drew
      have HRow5 := Lib.hid ((Below.cell hgd HBr.out).trans HRow.out)
      have HBr5 := Lib.hid (Nat.lt_of_lt_of_le HBr.out hgd.size)
      clear b5 hg5 hgd HR4 HS4 HW4 HRow HBr
      generalize wr.heap.size = gs at HB5 ⊢
      generalize W5.drew = w5 at HR5 HS5 HW5 HB5 HRow5 HBr5 ⊢
      have q0 : ∀ W, Grow w5 W → W.cell? ⟨gs, 0, none⟩ = some (.int .u32 (s.typ : Nat)) := fun W hW => (HB5.out.grow hW).at 0
      have q1 : ∀ W, Grow w5 W → W.cell? ⟨gs, 1, none⟩ = some (.int .u32 (s.flags : Nat)) := fun W hW => (HB5.out.grow hW).at 1
      have q2 : ∀ W, Grow w5 W → W.cell? ⟨gs, 2, none⟩ = some (.int .u64 (s.vaddr : Nat)) := fun W hW => (HB5.out.grow hW).at 2
      have q3 : ∀ W, Grow w5 W → W.cell? ⟨gs, 3, none⟩ = some (.int .u64 (s.paddr : Nat)) := fun W hW => (HB5.out.grow hW).at 3
      have q4 : ∀ W, Grow w5 W → W.cell? ⟨gs, 4, none⟩ = some (.int .u64 (s.memsz : Nat)) := fun W hW => (HB5.out.grow hW).at 4
      have q5 : ∀ W, Grow w5 W → W.cell? ⟨gs, 5, none⟩ = some (.int .u64 (s.align : Nat)) := fun W hW => (HB5.out.grow hW).at 5
      have q6 : ∀ W, Grow w5 W → W.cell? ⟨gs, 6, none⟩ = some (.int .i64 s.pl.inn) := fun W hW => (HB5.out.grow hW).at 6
      have q7 : ∀ W, Grow w5 W → W.cell? ⟨gs, 7, none⟩ = some (.int .u64 (s.pl.off : Nat)) := fun W hW => (HB5.out.grow hW).at 7
      have q8 : ∀ W, Grow w5 W → W.cell? ⟨gs, 8, none⟩ = some (.int .u64 (s.pl.size : Nat)) := fun W hW => (HB5.out.grow hW).at 8
      have r3 : ∀ W, Grow w5 W → W.cell? ⟨gp, 3, none⟩ = some (.slice (some ⟨br, offr, none⟩) n0 c0) := fun W hW => (HS5.out.p.grow hW).at 3
      have rk : ∀ W, Grow w5 W → W.cell? ⟨br, offr + k, none⟩ = some (.int .u64 (pk : Int)) := fun W hW => (Below.cell hW HBr5.out).trans HRow5.out
      have f0 : ∀ W, Grow w5 W → W.cell? ⟨gf, 0, none⟩ = some (.bool wide) := fun W hW => (HS5.out.f.grow hW).at 0
      have f1 : ∀ W, Grow w5 W → W.cell? ⟨gf, 1, none⟩ = some (.bool big) := fun W hW => (HS5.out.f.grow hW).at 1
      have hnr := HNr.out
      repeat (first | (refine chain_take rfl (by rfl) ?_ (fun W hG => ?_) ?_; rotate_left; (go_simp; rfl); simp only [Act.put, List.setIfInBounds_toArray, List.set_cons_zero, List.set_cons_succ]) | (refine chain_skip rfl (by rfl) ?_; simp only [Act.put, List.setIfInBounds_toArray, List.set_cons_zero, List.set_cons_succ]))
      clear q0 q1 q2 q3 q4 q5 q6 q7 q8 r3 rk f0 f1 hnr
      refine chain_only rfl (by rfl) (fun K hK => ?_)
      go_simp
      refine (HPp.out _).mono ?_
      rintro e w6 ⟨Ap, cp, vb, rfl, hr, hg⟩
      refine hK _ _ hg ?_
      clear hK K
      have HR6 := Lib.hid ((HR5.out.belowAt hg (Nat.le_refl _)).more hg.size)
      have HS6 := Lib.hid (HS5.out.grow hg)
      have HW6 : Hid (Grow w1 w6) := Lib.hid (HW5.out.trans hg)
      have HX6 := Lib.hid hr
      clear hr hg HR5 HS5 HW5 HB5 HRow5 HBr5 HPp
      repeat (first | (refine chain_take rfl (by rfl) ?_ (fun W hG => ?_) ?_; rotate_left; (go_simp; rfl); simp only [Act.put, List.setIfInBounds_toArray, List.set_cons_zero, List.set_cons_succ]) | (refine chain_skip rfl (by rfl) ?_; simp only [Act.put, List.setIfInBounds_toArray, List.set_cons_zero, List.set_cons_succ]))
      refine chain_done ?_
      have p0 := HS6.out.p.at 0
      obtain ⟨e1, e2, e3⟩ := HE.out
      have hb1 : ph + q + pl.length ≤ 100000 := Nat.le_trans HZk.out (Nat.le_trans HTm.out (by decide))
      have hb2 : L.length ≤ 100000 := Nat.le_trans HLn.out (Nat.le_trans HTm.out (by decide))
      have HLay := Lib.hid (layIn_any Ax L.length cx L (ph + q) Ap pl.length cp pl w6 HR6.out HX6.out hb1 hb2)
      rw [Int.natCast_add] at HLay e3
      clear hb1 hb2
      go_wp2_with fail
      refine HLay.out.mono ?_
      rintro e w7 ⟨A9, c9, rfl, hr, hg⟩
      have HR7 := Lib.hid hr
      have HS7 := Lib.hid (HS6.out.grow hg)
      have HW7 : Hid (Grow w1 w7) := Lib.hid (HW6.out.trans hg)
      have HL7 : Hid (Laid (Stg m (k + 1) 0 0 0) (layL L (ph + q) pl) ∧ (layL L (ph + q) pl).length ≤ T) := Lib.hid (by
        refine ⟨HLkE.out _ (HLk.out.pad _) (by rw [List.length_append, List.length_replicate]; omega), ?_⟩
        rw [layL_len]
        have := HZk.out
        have := HLn.out
        omega)
      clear hr hg HR6 HS6 HW6 HX6 HLay p0 e1 e2 e3 HLkE HLk HLn HZk
      generalize layL L (ph + q) pl = L7 at HR7 HL7 ⊢
      go_wp2
      go_roundw
      case rel => exact ⟨k + 1, A9, c9, L7, by omega, by go_num, rfl, HR7.out, HS7.out, HW7.out, HL7.out.1, HL7.out.2⟩
      case measure => simp [intOf]; omega
    · have ek : k = n1 := by omega
      have HLk1 : Hid (Laid (Stg m n1 0 0 0) L ∧ L.length ≤ T) := Lib.hid ⟨by have := HLk.out; rwa [ek] at this, HLn.out⟩
      have d1 : decide ((k : Int) < (n1 : Int)) = false := decide_eq_false (by omega)
      clear HLk HLn ek
      have v8 := HS4.out.m.at 8
      go_wp2_with fail
      clear d1 v8
      go_loopw [8, 17] (fun x i wr => ∃ (k : Nat) (A : Option Addr) (c : Nat) (L : List UInt8), k ≤ n1 ∧ i = .int .i64 k ∧ x = .slice A L.length c ∧ RB wr wr.heap.size A L.length c L ∧ RS w wr gm gp gf 32 65 23 #[.bool wide, .bool big, .int .u8 o, .int .u8 a, .int .u16 ty, .int .u16 ma, .int .u32 fl, .int .u64 en, .slice A1 n1 c1, .slice A2 n2 c2, .int .i64 st] #[.int .u64 (ph : Int), .int .u64 (sh : Int), .int .u64 (T : Int), .slice A0 n0 c0, .slice A' n' c'] #[.bool wide, .bool big] ∧ Grow w1 wr ∧ Laid (Stg m n1 k 0 0) L ∧ L.length ≤ T) (fun _ i _ => n1 - (intOf i).toNat)
      case atStart => exact ⟨0, Ax, cx, L, by omega, rfl, rfl, HR4.out, HS4.out, HW4.out, HLk1.out.1, HLk1.out.2⟩
      case round =>
        clear HLk1 HS4 HR4 HW4 hlt hk
        obtain ⟨k, Ax, cx, L, hk, rfl, rfl, hrb, hrs, hw1, hla, hlen⟩ := hrel
        have HR4 := Lib.hid hrb
        have HS4 := Lib.hid hrs
        have HW4 := Lib.hid hw1
        have HLk := Lib.hid hla
        have HLn := Lib.hid hlen
        clear hrb hrs hw1 hla hlen
        by_cases hlt : k < n1
        · have hkl : k < m.segs.length := by rw [← HLen1.out]; exact hlt
          obtain ⟨b, off, hAA, hb⟩ := HZ1.out.pos (by omega)
          obtain ⟨br, offr, hAR, hbr, hcr⟩ := HN1.out.pos (by have := HN1.out.len; simp at this; omega)
          subst hAA
          subst hAR
          obtain ⟨Ak, nk, ck, -, hcell, gk⟩ := HZ1.out.at hkl
          have hse : m.segs[k] = m.sg k := by unfold Md.sg; rw [List.getD_eq_getElem?_getD, List.getElem?_eq_getElem hkl]; rfl
          rw [hse] at hcell gk
          have hc9 : wr.cell? ⟨b, off + k * 10 + 9, none⟩ = some (.slice Ak nk ck) := (Below.cell HS4.out.w hb).trans (hcell 9 _ rfl)
          have hcrk := hcr k (by simpa using hkl)
          simp only [List.getElem_map, List.getElem_range] at hcrk
          have HRow : Hid (wr.cell? ⟨br, offr + k, none⟩ = some (.int .u64 (m.P2 k : Int))) := Lib.hid ((Below.cell HW4.out hbr).trans hcrk)
          have HCell := Lib.hid hc9
          have HBr := Lib.hid (Nat.lt_of_lt_of_le hbr HW4.out.size)
          have HB := Lib.hid (Nat.lt_of_lt_of_le hb HS4.out.w.size)
          have HNr : Hid (k < n0) := Lib.hid (by have := HN1.out.len; simp at this; omega)
          have HGk : Hid (RB wr wr.heap.size Ak nk ck (m.sg k).pl.own) := Lib.hid ((gk.belowAt HS4.out.w (Nat.le_refl _)).more HS4.out.w.size)
          have hTm : T ≤ 65536 := by rw [← HT.out]; exact HGo.out.eT
          have HOwn : Hid (m.P2 k + (m.sg k).pl.own.length ≤ T) := Lib.hid (by
            have h1 := HGo.out.seg_at hkl
            have h2 := HT.out
            omega)
          have HLkB : Hid (∀ L, Laid (Stg m n1 k 0 0) L → m.P2 k + (m.sg k).pl.own.length ≤ L.length → Laid (Stg m n1 (k + 1) 0 0) (put L (m.P2 k) (m.sg k).pl.own)) := Lib.hid fun L h1 h2 => HGo.out.putB h1 (Nat.le_of_eq HLen1.out) hkl (Nat.zero_le _) (Nat.zero_le _) h2
          have HTm := Lib.hid hTm
          clear hcr hcrk hbr hb hcell gk hkl hse hc9 hTm
          generalize (m.sg k).pl.own = ow at HGk HOwn HLkB
          generalize m.P2 k = pk at HRow HOwn HLkB
          have d1 : decide ((k : Int) < (n1 : Int)) = true := decide_eq_true (by omega)
          have v8 := HS4.out.m.at 8
          go_wp2_with fail
          refine wp_region_chain [(0, true), (1, true), (2, true), (3, true), (4, true), (5, true), (6, true), (7, true), (8, true), (9, true), (10, true), (11, true), (12, true), (13, false), (14, true)] (by kernel_rfl) (by kernel_rfl) (by kernel_rfl) ?_
          clear d1 v8
          have hgd : Grow wr wr.drew := Grow.of_drew wr
          have HR5 := Lib.hid ((HR4.out.belowAt hgd (Nat.le_refl _)).more hgd.size)
          have HS5 := Lib.hid (HS4.out.grow hgd)
          have HW5 : Hid (Grow w1 wr.drew) := Lib.hid (HW4.out.trans hgd)
          have HK5 := Lib.hid ((HGk.out.belowAt hgd (Nat.le_refl _)).more hgd.size)
          have HRow5 := Lib.hid ((Below.cell hgd HBr.out).trans HRow.out)
          have HBr5 := Lib.hid (Nat.lt_of_lt_of_le HBr.out hgd.size)
          have HCell5 := Lib.hid ((Below.cell hgd HB.out).trans HCell.out)
          have HB5 := Lib.hid (Nat.lt_of_lt_of_le HB.out hgd.size)
          clear hgd HR4 HS4 HW4 HGk HRow HBr HCell HB
          generalize wr.drew = w5 at HR5 HS5 HW5 HK5 HRow5 HBr5 HCell5 HB5 ⊢
          have v8 : ∀ W, Grow w5 W → W.cell? ⟨gm, 8, none⟩ = some (.slice (some ⟨b, off, none⟩) n1 c1) := fun W hW => (HS5.out.m.grow hW).at 8
          have r3 : ∀ W, Grow w5 W → W.cell? ⟨gp, 3, none⟩ = some (.slice (some ⟨br, offr, none⟩) n0 c0) := fun W hW => (HS5.out.p.grow hW).at 3
          have rk : ∀ W, Grow w5 W → W.cell? ⟨br, offr + k, none⟩ = some (.int .u64 (pk : Int)) := fun W hW => (Below.cell hW HBr5.out).trans HRow5.out
          have t9 : ∀ W, Grow w5 W → W.cell? ⟨b, off + k * 10 + 9, none⟩ = some (.slice Ak nk ck) := fun W hW => (Below.cell hW HB5.out).trans HCell5.out
          have hnr := HNr.out
          repeat (first | (refine chain_take rfl (by rfl) ?_ (fun W hG => ?_) ?_; rotate_left; (go_simp; rfl); simp only [Act.put, List.setIfInBounds_toArray, List.set_cons_zero, List.set_cons_succ]) | (refine chain_skip rfl (by rfl) ?_; simp only [Act.put, List.setIfInBounds_toArray, List.set_cons_zero, List.set_cons_succ]))
          clear v8 r3 rk t9 hnr
          have hb1 : pk + ow.length ≤ 100000 := Nat.le_trans HOwn.out (Nat.le_trans HTm.out (by decide))
          have hb2 : L.length ≤ 100000 := Nat.le_trans HLn.out (Nat.le_trans HTm.out (by decide))
          have HLay := Lib.hid (layIn_any Ax L.length cx L pk Ak nk ck ow w5 HR5.out HK5.out hb1 hb2)
          clear hb1 hb2
          refine chain_only rfl (by rfl) (fun K hK => ?_)
          go_simp
          refine HLay.out.mono ?_
          rintro e w7 ⟨A9, c9, rfl, hr, hg⟩
          refine hK _ _ hg ?_
          clear hK K
          have HR7 := Lib.hid hr
          have HS7 := Lib.hid (HS5.out.grow hg)
          have HW7 : Hid (Grow w1 w7) := Lib.hid (HW5.out.trans hg)
          have HL7 : Hid (Laid (Stg m n1 (k + 1) 0 0) (layL L pk ow) ∧ (layL L pk ow).length ≤ T) := Lib.hid (by
            refine ⟨HLkB.out _ (HLk.out.pad _) (by rw [List.length_append, List.length_replicate]; omega), ?_⟩
            rw [layL_len]
            have := HOwn.out
            have := HLn.out
            omega)
          clear hr hg HR5 HS5 HW5 HK5 HRow5 HBr5 HCell5 HB5 HLay HLkB HLk HLn HOwn
          generalize layL L pk ow = L7 at HR7 HL7 ⊢
          repeat (first | (refine chain_take rfl (by rfl) ?_ (fun W hG => ?_) ?_; rotate_left; (go_simp; rfl); simp only [Act.put, List.setIfInBounds_toArray, List.set_cons_zero, List.set_cons_succ]) | (refine chain_skip rfl (by rfl) ?_; simp only [Act.put, List.setIfInBounds_toArray, List.set_cons_zero, List.set_cons_succ]))
          refine chain_done ?_
          go_wp2
          go_roundw
          case rel => exact ⟨k + 1, A9, c9, L7, by omega, by go_num, rfl, HR7.out, HS7.out, HW7.out, HL7.out.1, HL7.out.2⟩
          case measure => simp [intOf]; omega
        · have ek : k = n1 := by omega
          have HLk1 : Hid (Laid (Stg m n1 n1 0 0) L ∧ L.length ≤ T) := Lib.hid ⟨by have := HLk.out; rwa [ek] at this, HLn.out⟩
          have d1 : decide ((k : Int) < (n1 : Int)) = false := decide_eq_false (by omega)
          clear HLk HLn ek
          have v8 := HS4.out.m.at 8
          have v9 := HS4.out.m.at 9
          go_wp2_with fail
          clear d1 v8 v9
          go_loopw [8, 18] (fun x i wr => ∃ (k : Nat) (A : Option Addr) (c : Nat) (L : List UInt8), k ≤ n2 ∧ i = .int .i64 k ∧ x = .slice A L.length c ∧ RB wr wr.heap.size A L.length c L ∧ RS w wr gm gp gf 32 65 23 #[.bool wide, .bool big, .int .u8 o, .int .u8 a, .int .u16 ty, .int .u16 ma, .int .u32 fl, .int .u64 en, .slice A1 n1 c1, .slice A2 n2 c2, .int .i64 st] #[.int .u64 (ph : Int), .int .u64 (sh : Int), .int .u64 (T : Int), .slice A0 n0 c0, .slice A' n' c'] #[.bool wide, .bool big] ∧ Grow w1 wr ∧ Laid (Stg m n1 n1 k k) L ∧ L.length ≤ T) (fun _ i _ => n2 - (intOf i).toNat)
          case atStart => exact ⟨0, Ax, cx, L, by omega, rfl, rfl, HR4.out, HS4.out, HW4.out, HLk1.out.1, HLk1.out.2⟩
          case round =>
            clear HLk1 HS4 HR4 HW4 hlt hk
            obtain ⟨k, Ax, cx, L, hk, rfl, rfl, hrb, hrs, hw1, hla, hlen⟩ := hrel
            have HR4 := Lib.hid hrb
            have HS4 := Lib.hid hrs
            have HW4 := Lib.hid hw1
            have HLk := Lib.hid hla
            have HLn := Lib.hid hlen
            clear hrb hrs hw1 hla hlen
            by_cases hlt : k < n2
            · have hkl : k < m.secs.length := by rw [← HLen2.out]; exact hlt
              obtain ⟨b, off, hAA, hb⟩ := HZ2.out.pos (by omega)
              obtain ⟨br, offr, hAR, hbr, hcr⟩ := HN2.out.pos (by have := HN2.out.len; simp at this; omega)
              subst hAA
              subst hAR
              obtain ⟨Ak, nk, ck, -, hcell, gk⟩ := HZ2.out.at hkl
              have hse : m.secs[k] = m.se k := by unfold Md.se; rw [List.getD_eq_getElem?_getD, List.getElem?_eq_getElem hkl]; rfl
              rw [hse] at hcell gk
              have hcell' : ∀ i v, (seC (m.se k) (.slice Ak nk ck))[i]? = some v → wr.cell? ⟨b, off + k * 13 + i, none⟩ = some v := fun i v hv => (Below.cell HS4.out.w hb).trans (hcell i v hv)
              have hcrk := hcr k (by simpa using hkl)
              simp only [List.getElem_map, List.getElem_range] at hcrk
              have HRow : Hid (wr.cell? ⟨br, offr + k, none⟩ = some (.int .u64 (m.P3 k : Int))) := Lib.hid ((Below.cell HW4.out hbr).trans hcrk)
              have HBr := Lib.hid (Nat.lt_of_lt_of_le hbr HW4.out.size)
              have HNr : Hid (k < n') := Lib.hid (by have := HN2.out.len; simp at this; omega)
              have HGk : Hid (RB wr wr.heap.size Ak nk ck (m.se k).pl.own) := Lib.hid ((gk.belowAt HS4.out.w (Nat.le_refl _)).more HS4.out.w.size)
              have HSp : Hid (∀ W, Calls Tryz.prog 23 #[(m.sc k).V, .agg #[.bool wide, .bool big]] W fun e w' => ∃ A c v, e = .returned (.tuple #[.slice A ((m.sc k).L wide big).length c, .bool v]) ∧ RB w' w'.heap.size A ((m.sc k).L wide big).length c ((m.sc k).L wide big) ∧ Grow W w') := Lib.hid fun W => (rPutSect_any (m.sc k) (HGo.out.scOk hkl) wide big W).mono fun e w' hp => by
                obtain ⟨A, c, e1, e2, e3⟩ := hp
                exact ⟨A, c, _, e1, e2.rb, e3⟩
              have hTm : T ≤ 65536 := by rw [← HT.out]; exact HGo.out.eT
              have HOwn : Hid (m.P3 k + (m.se k).pl.own.length ≤ T) := Lib.hid (by
                have h1 := HGo.out.sec_at hkl
                have h2 := HT.out
                omega)
              have hs1 : n1 ≤ m.segs.length := Nat.le_of_eq HLen1.out
              have HLkC : Hid (∀ L, Laid (Stg m n1 n1 k k) L → m.P3 k + (m.se k).pl.own.length ≤ L.length → Laid (Stg m n1 n1 (k + 1) k) (put L (m.P3 k) (m.se k).pl.own)) := Lib.hid fun L h1 h2 => HGo.out.putC h1 hs1 hs1 hkl (Nat.le_of_lt hkl) h2
              have hS2 : S2 ≤ 64 := by rw [HS2e.out]; cases wide <;> decide
              have hsh : sh ≤ 65536 := by rw [← HSh.out]; exact HGo.out.shoff_le
              obtain ⟨q, hq⟩ : ∃ q, q = S2 * (k + 1) := ⟨_, rfl⟩
              have hq1 : q ≤ 5000 := by rw [hq]; exact Nat.le_trans (Nat.mul_le_mul hS2 (show k + 1 ≤ 65 by omega)) (by decide)
              have eq2 : (k + 1) * sSize m.wide = q := by rw [hq, HS2e.out, ← HWi.out, Nat.mul_comm]; rfl
              have HZk : Hid (sh + q + ((m.sc k).L wide big).length ≤ T) := Lib.hid (by
                have h1 := (HGo.out.z4 hkl).2
                have h3 := HT.out
                rw [eq2, HSh.out, ← HWi.out, ← HBi.out] at h1
                omega)
              have HLkD : Hid (∀ L, Laid (Stg m n1 n1 (k + 1) k) L → sh + q + ((m.sc k).L wide big).length ≤ L.length → Laid (Stg m n1 n1 (k + 1) (k + 1)) (put L (sh + q) ((m.sc k).L wide big))) := Lib.hid fun L h1 h2 => by
                have h3 := HGo.out.putD h1 hs1 hs1 hkl hkl
                rw [eq2, HSh.out, ← HWi.out, ← HBi.out] at h3
                exact h3 h2
              have e0 : IntKind.i64.wrap ((k : Int) + 1) = (k : Int) + 1 := by rw [IntKind.wrap_i64]; omega
              have e1 : IntKind.i64.wrap ((S2 : Int) * ((k : Int) + 1)) = (q : Int) := by
                rw [show (S2 : Int) * ((k : Int) + 1) = (q : Int) by rw [hq]; push_cast; rfl, IntKind.wrap_i64]; omega
              have e2 : IntKind.u64.wrap (q : Int) = (q : Int) := by rw [IntKind.wrap_u64]; omega
              have e3 : IntKind.u64.wrap ((sh : Int) + (q : Int)) = ((sh + q : Nat) : Int) := by rw [IntKind.wrap_u64]; omega
              have HE := Lib.hid (show _ ∧ _ ∧ _ ∧ _ from ⟨e0, e1, e2, e3⟩)
              have HTm := Lib.hid hTm
              clear hcr hcrk hbr hcell gk hkl hse hq hq1 hS2 hsh hTm e0 e1 e2 e3 eq2 hs1
              unfold seC at hcell'
              generalize (m.sc k).L wide big = pl at HSp HLkD HZk
              unfold Sc.V Sc.C Md.sc at HSp
              simp only [] at HSp
              generalize m.P3 k = pk at HSp HRow HOwn HLkC
              generalize (m.se k).pl.own = ow at HGk HOwn HLkC
              generalize m.se k = s at hcell' HSp
              have t0 : wr.cell? ⟨b, off + k * 13, none⟩ = _ := hcell' 0 _ rfl
              have t1 := hcell' 1 _ rfl
              have t2 := hcell' 2 _ rfl
              have t3 := hcell' 3 _ rfl
              have t4 := hcell' 4 _ rfl
              have t5 := hcell' 5 _ rfl
              have t6 := hcell' 6 _ rfl
              have t7 := hcell' 7 _ rfl
              have t8 := hcell' 8 _ rfl
              have t9 := hcell' 9 _ rfl
              have t10 := hcell' 10 _ rfl
              have t11 := hcell' 11 _ rfl
              have t12 := hcell' 12 _ rfl
              have v9 := HS4.out.m.at 9
              have d1 : decide ((k : Int) < (n2 : Int)) = true := decide_eq_true (by omega)
              clear hcell'
              go_wp2_with fail
              refine wp_region_chain [(0, true), (1, true), (2, true), (3, true), (4, true), (5, true), (6, true), (7, true), (8, true), (9, false), (10, true)] (by kernel_rfl) (by kernel_rfl) (by kernel_rfl) ?_
              generalize hW : World.alloc _ _ = W5
              obtain ⟨b5, hg5⟩ := blk1 hW
              clear hW t0 t1 t2 t3 t4 t5 t6 t7 t8 t9 t10 t11 t12 v9 d1
              have hgd : Grow wr W5.drew := hg5.trans (Grow.of_drew _)
              have HR5 := Lib.hid ((HR4.out.belowAt hgd (Nat.le_refl _)).more hgd.size)
              have HS5 := Lib.hid (HS4.out.grow hgd)
              have HW5 : Hid (Grow w1 W5.drew) := Lib.hid (HW4.out.trans hgd)
              have HB5 := Lib.hid b5.drew
              have HK5 := Lib.hid ((HGk.out.belowAt hgd (Nat.le_refl _)).more hgd.size)
              have HRow5 := Lib.hid ((Below.cell hgd HBr.out).trans HRow.out)
              have HBr5 := Lib.hid (Nat.lt_of_lt_of_le HBr.out hgd.size)
              clear b5 hg5 hgd HR4 HS4 HW4 HRow HBr HGk
              generalize wr.heap.size = gs at HB5 ⊢
              generalize W5.drew = w5 at HR5 HS5 HW5 HB5 HK5 HRow5 HBr5 ⊢
              have q12 : ∀ W, Grow w5 W → W.cell? ⟨gs, 12, none⟩ = some (.slice Ak nk ck) := fun W hW => (HB5.out.grow hW).at 12
              have r4 : ∀ W, Grow w5 W → W.cell? ⟨gp, 4, none⟩ = some (.slice (some ⟨br, offr, none⟩) n' c') := fun W hW => (HS5.out.p.grow hW).at 4
              have rk : ∀ W, Grow w5 W → W.cell? ⟨br, offr + k, none⟩ = some (.int .u64 (pk : Int)) := fun W hW => (Below.cell hW HBr5.out).trans HRow5.out
              have hnr := HNr.out
              repeat (first | (refine chain_take rfl (by rfl) ?_ (fun W hG => ?_) ?_; rotate_left; (go_simp; rfl); simp only [Act.put, List.setIfInBounds_toArray, List.set_cons_zero, List.set_cons_succ]) | (refine chain_skip rfl (by rfl) ?_; simp only [Act.put, List.setIfInBounds_toArray, List.set_cons_zero, List.set_cons_succ]))
              clear q12 r4 rk hnr
              have hb1 : pk + ow.length ≤ 100000 := Nat.le_trans HOwn.out (Nat.le_trans HTm.out (by decide))
              have hb2 : L.length ≤ 100000 := Nat.le_trans HLn.out (Nat.le_trans HTm.out (by decide))
              have HLay := Lib.hid (layIn_any Ax L.length cx L pk Ak nk ck ow w5 HR5.out HK5.out hb1 hb2)
              clear hb1 hb2
              refine chain_only rfl (by rfl) (fun K hK => ?_)
              go_simp
              refine HLay.out.mono ?_
              rintro e w6 ⟨A9, c9, rfl, hr, hg⟩
              refine hK _ _ hg ?_
              clear hK K
              have HR6 := Lib.hid hr
              have HS6 := Lib.hid (HS5.out.grow hg)
              have HB6 := Lib.hid (HB5.out.grow hg)
              have HW6 : Hid (Grow w1 w6) := Lib.hid (HW5.out.trans hg)
              have HRow6 := Lib.hid ((Below.cell hg HBr5.out).trans HRow5.out)
              have HBr6 := Lib.hid (Nat.lt_of_lt_of_le HBr5.out hg.size)
              have HL6 : Hid (Laid (Stg m n1 n1 (k + 1) k) (layL L pk ow) ∧ (layL L pk ow).length ≤ T) := Lib.hid (by
                refine ⟨HLkC.out _ (HLk.out.pad _) (by rw [List.length_append, List.length_replicate]; omega), ?_⟩
                rw [layL_len]
                have := HOwn.out
                have := HLn.out
                omega)
              clear hr hg HR5 HS5 HW5 HB5 HK5 HRow5 HBr5 HLay HLkC HLk HLn HOwn
              generalize layL L pk ow = L6 at HR6 HL6 ⊢
              repeat (first | (refine chain_take rfl (by rfl) ?_ (fun W hG => ?_) ?_; rotate_left; (go_simp; rfl); simp only [Act.put, List.setIfInBounds_toArray, List.set_cons_zero, List.set_cons_succ]) | (refine chain_skip rfl (by rfl) ?_; simp only [Act.put, List.setIfInBounds_toArray, List.set_cons_zero, List.set_cons_succ]))
              refine chain_done ?_
              go_wp2_with fail
              refine wp_region_chain [(0, true), (1, true), (2, true), (3, true), (4, true), (5, true), (6, true), (7, true), (8, true), (9, true), (10, true), (11, true), (12, true), (13, true), (14, true), (15, true), (16, true), (17, true), (18, true), (19, true), (20, true), (21, true), (22, true), (23, true), (24, true), (25, false), (26, true), (27, true), (28, true), (29, true), (30, true)] (by kernel_rfl) (by kernel_rfl) (by kernel_rfl) ?_
              have hgd : Grow w6 w6.drew := Grow.of_drew w6
              have HR7 := Lib.hid ((HR6.out.belowAt hgd (Nat.le_refl _)).more hgd.size)
              have HS7 := Lib.hid (HS6.out.grow hgd)
              have HB7 := Lib.hid (HB6.out.grow hgd)
              have HW7 : Hid (Grow w1 w6.drew) := Lib.hid (HW6.out.trans hgd)
              have HRow7 := Lib.hid ((Below.cell hgd HBr6.out).trans HRow6.out)
              have HBr7 := Lib.hid (Nat.lt_of_lt_of_le HBr6.out hgd.size)
              clear hgd HR6 HS6 HB6 HW6 HRow6 HBr6
              generalize w6.drew = w7 at HR7 HS7 HB7 HW7 HRow7 HBr7 ⊢
              have q0 : ∀ W, Grow w7 W → W.cell? ⟨gs, 0, none⟩ = some (.int .u32 (s.name : Nat)) := fun W hW => (HB7.out.grow hW).at 0
              have q1 : ∀ W, Grow w7 W → W.cell? ⟨gs, 1, none⟩ = some (.int .u32 (s.typ : Nat)) := fun W hW => (HB7.out.grow hW).at 1
              have q2 : ∀ W, Grow w7 W → W.cell? ⟨gs, 2, none⟩ = some (.int .u64 (s.flags : Nat)) := fun W hW => (HB7.out.grow hW).at 2
              have q3 : ∀ W, Grow w7 W → W.cell? ⟨gs, 3, none⟩ = some (.int .u64 (s.addr : Nat)) := fun W hW => (HB7.out.grow hW).at 3
              have q4 : ∀ W, Grow w7 W → W.cell? ⟨gs, 4, none⟩ = some (.int .u64 (s.size : Nat)) := fun W hW => (HB7.out.grow hW).at 4
              have q5 : ∀ W, Grow w7 W → W.cell? ⟨gs, 5, none⟩ = some (.int .u32 (s.link : Nat)) := fun W hW => (HB7.out.grow hW).at 5
              have q6 : ∀ W, Grow w7 W → W.cell? ⟨gs, 6, none⟩ = some (.int .u32 (s.info : Nat)) := fun W hW => (HB7.out.grow hW).at 6
              have q7 : ∀ W, Grow w7 W → W.cell? ⟨gs, 7, none⟩ = some (.int .u64 (s.align : Nat)) := fun W hW => (HB7.out.grow hW).at 7
              have q8 : ∀ W, Grow w7 W → W.cell? ⟨gs, 8, none⟩ = some (.int .u64 (s.entsize : Nat)) := fun W hW => (HB7.out.grow hW).at 8
              have r4 : ∀ W, Grow w7 W → W.cell? ⟨gp, 4, none⟩ = some (.slice (some ⟨br, offr, none⟩) n' c') := fun W hW => (HS7.out.p.grow hW).at 4
              have rk : ∀ W, Grow w7 W → W.cell? ⟨br, offr + k, none⟩ = some (.int .u64 (pk : Int)) := fun W hW => (Below.cell hW HBr7.out).trans HRow7.out
              have f0 : ∀ W, Grow w7 W → W.cell? ⟨gf, 0, none⟩ = some (.bool wide) := fun W hW => (HS7.out.f.grow hW).at 0
              have f1 : ∀ W, Grow w7 W → W.cell? ⟨gf, 1, none⟩ = some (.bool big) := fun W hW => (HS7.out.f.grow hW).at 1
              have hnr := HNr.out
              repeat (first | (refine chain_take rfl (by rfl) ?_ (fun W hG => ?_) ?_; rotate_left; (go_simp; rfl); simp only [Act.put, List.setIfInBounds_toArray, List.set_cons_zero, List.set_cons_succ]) | (refine chain_skip rfl (by rfl) ?_; simp only [Act.put, List.setIfInBounds_toArray, List.set_cons_zero, List.set_cons_succ]))
              clear q0 q1 q2 q3 q4 q5 q6 q7 q8 r4 rk f0 f1 hnr
              refine chain_only rfl (by rfl) (fun K hK => ?_)
              go_simp
              refine (HSp.out _).mono ?_
              rintro e w8 ⟨Ap, cp, vb, rfl, hr, hg⟩
              refine hK _ _ hg ?_
              clear hK K
              have HR8 := Lib.hid ((HR7.out.belowAt hg (Nat.le_refl _)).more hg.size)
              have HS8 := Lib.hid (HS7.out.grow hg)
              have HW8 : Hid (Grow w1 w8) := Lib.hid (HW7.out.trans hg)
              have HX8 := Lib.hid hr
              clear hr hg HR7 HS7 HW7 HB7 HRow7 HBr7 HSp
              repeat (first | (refine chain_take rfl (by rfl) ?_ (fun W hG => ?_) ?_; rotate_left; (go_simp; rfl); simp only [Act.put, List.setIfInBounds_toArray, List.set_cons_zero, List.set_cons_succ]) | (refine chain_skip rfl (by rfl) ?_; simp only [Act.put, List.setIfInBounds_toArray, List.set_cons_zero, List.set_cons_succ]))
              refine chain_done ?_
              have p1 := HS8.out.p.at 1
              obtain ⟨e0, e1, e2, e3⟩ := HE.out
              have hb1 : sh + q + pl.length ≤ 100000 := Nat.le_trans HZk.out (Nat.le_trans HTm.out (by decide))
              have hb2 : L6.length ≤ 100000 := Nat.le_trans HL6.out.2 (Nat.le_trans HTm.out (by decide))
              have HLay := Lib.hid (layIn_any A9 L6.length c9 L6 (sh + q) Ap pl.length cp pl w8 HR8.out HX8.out hb1 hb2)
              rw [Int.natCast_add] at HLay e3
              clear hb1 hb2
              go_wp2_with fail
              refine HLay.out.mono ?_
              rintro e w9 ⟨A10, c10, rfl, hr, hg⟩
              have HR9 := Lib.hid hr
              have HS9 := Lib.hid (HS8.out.grow hg)
              have HW9 : Hid (Grow w1 w9) := Lib.hid (HW8.out.trans hg)
              have HL9 : Hid (Laid (Stg m n1 n1 (k + 1) (k + 1)) (layL L6 (sh + q) pl) ∧ (layL L6 (sh + q) pl).length ≤ T) := Lib.hid (by
                refine ⟨HLkD.out _ (HL6.out.1.pad _) (by rw [List.length_append, List.length_replicate]; omega), ?_⟩
                rw [layL_len]
                have := HZk.out
                have := HL6.out.2
                omega)
              clear hr hg HR8 HS8 HW8 HX8 HLay p1 e0 e1 e2 e3 HLkD HL6 HZk
              generalize layL L6 (sh + q) pl = L9 at HR9 HL9 ⊢
              go_wp2
              go_roundw
              case rel => exact ⟨k + 1, A10, c10, L9, by omega, by go_num, rfl, HR9.out, HS9.out, HW9.out, HL9.out.1, HL9.out.2⟩
              case measure => simp [intOf]; omega
            · have ek : k = n2 := by omega
              have HLk1 : Hid (Laid (Stg m n1 n1 n2 n2) L ∧ L.length ≤ T) := Lib.hid ⟨by have := HLk.out; rwa [ek] at this, HLn.out⟩
              have d1 : decide ((k : Int) < (n2 : Int)) = false := decide_eq_false (by omega)
              clear HLk HLn ek
              have v9 := HS4.out.m.at 9
              go_wp2_with fail
              refine wp_region_chain [(0, true), (1, true), (2, true), (4, true), (5, true), (6, true), (3, false), (7, true), (8, true), (9, true)] (by kernel_rfl) (by kernel_rfl) (by kernel_rfl) ?_
              clear d1 v9
              have hgd : Grow wr wr.drew := Grow.of_drew wr
              have HR5 := Lib.hid ((HR4.out.belowAt hgd (Nat.le_refl _)).more hgd.size)
              have HS5 := Lib.hid (HS4.out.grow hgd)
              clear hgd HR4 HS4 HW4
              generalize wr.drew = w5 at HR5 HS5 ⊢
              have hTm : T ≤ 65536 := by rw [← HT.out]; exact HGo.out.eT
              have p2 : ∀ W, Grow w5 W → W.cell? ⟨gp, 2, none⟩ = some (.int .u64 (T : Int)) := fun W hW => (HS5.out.p.grow hW).at 2
              have e2 : IntKind.i64.wrap (T : Int) = (T : Int) := by rw [IntKind.wrap_i64]; omega
              repeat (first | (refine chain_take rfl (by rfl) ?_ (fun W hG => ?_) ?_; rotate_left; (go_simp; rfl); simp only [Act.put, List.setIfInBounds_toArray, List.set_cons_zero, List.set_cons_succ]) | (refine chain_skip rfl (by rfl) ?_; simp only [Act.put, List.setIfInBounds_toArray, List.set_cons_zero, List.set_cons_succ]))
              clear p2 e2
              have HLay := Lib.hid (layIn_any Ax L.length cx L T none 0 0 [] w5 HR5.out RB.nil (by simp; omega) (by have := HLk1.out.2; omega))
              refine chain_only rfl (by rfl) (fun K hK => ?_)
              go_simp
              refine HLay.out.mono ?_
              rintro e w6 ⟨A9, c9, rfl, hr, hg⟩
              refine hK _ _ hg ?_
              clear hK K
              have hlen : (layL L T []).length = T := by rw [layL_len]; have := HLk1.out.2; simp; omega
              have HFi : Hid (FileIs m (layL L T [])) := Lib.hid (by
                refine ⟨?_, hlen.trans HT.out.symm⟩
                unfold layL
                rw [put_nil, ← HLen1.out, ← HLen2.out]
                exact HLk1.out.1.pad _)
              have HG6 : Hid (Grow w w6) := Lib.hid (HS5.out.w.trans hg)
              have HLn6 := Lib.hid hlen
              rw [hlen] at hr ⊢
              clear hlen hg HR5 HS5 HLay
              generalize layL L T [] = L6 at hr HFi HLn6
              have hT0 : 0 < T := by
                have h1 := HGo.out.planned.order
                have h2 : m.hd.L.length = hSize m.wide := m.hd.lenL
                have h4 := HT.out
                have h5 : 52 ≤ hSize m.wide := by unfold hSize byWide; split <;> omega
                omega
              obtain ⟨ba, bo, rfl, -⟩ := hr.pos hT0
              have hcp := hr.cap
              have HR6 := Lib.hid hr
              clear hr
              have hcut : ∀ W : World, (Instr.slice 35 (.slice (some ⟨ba, bo, none⟩) T c9) none (some (.int .i64 (T : Int))) none).run Tryz.prog W = .ok (.slice (some ⟨ba, bo, none⟩) T c9) W := fun W => run_cut_h 35 Tryz.underlying35 (fun W => by kernel_rfl) ⟨ba, bo, none⟩ T c9 .i64 T hcp W
              have HCp := Lib.hid hcp
              clear hcp
              repeat (first | (refine chain_take rfl (by rfl) ?_ (fun W hG => ?_) ?_; rotate_left; (go_simp; rfl); simp only [Act.put, List.setIfInBounds_toArray, List.set_cons_zero, List.set_cons_succ]) | (refine chain_skip rfl (by rfl) ?_; simp only [Act.put, List.setIfInBounds_toArray, List.set_cons_zero, List.set_cons_succ]))
              clear hcut
              refine chain_done ?_
              go_wp2
              go_ret2
              exact .inl ⟨HC1.out, some ⟨ba, bo, none⟩, c9, L6, by rw [HLn6.out]; rfl, HFi.out, by rw [HLn6.out]; exact HR6.out, HG6.out⟩
end Go.Proofs.YtlccbekalccahaaGreatDoor
