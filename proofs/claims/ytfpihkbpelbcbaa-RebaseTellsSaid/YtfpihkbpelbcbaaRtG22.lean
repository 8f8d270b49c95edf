/-
  Several texts in one: The contract of the document's own Relocations.
-/
import Derived.Test.YtfpihkbpelbcbaaRtG21
import Derived.Test.YtfpihkbpelbcbaaRtG12
namespace Go.Proofs.Ytfpihkbpelbcbaa
open Go.Lib (hid)
open Go.RowKit
set_option maxRecDepth 100000
set_option linter.unusedVariables false
set_option maxHeartbeats 4000000 in
theorem rRels_any (m : Md) (ok : m.Ok) (hsm : m.Small) (A1 : Option Addr) (n1 c1 : Nat) (A2 : Option Addr) (n2 c2 : Nat) (adds : Bool) (w : World) (g1 : ZR sgK w w.heap.size A1 n1 c1 m.segs) :
  Calls Try.prog 23 #[.agg (mdC m (.slice A1 n1 c1) (.slice A2 n2 c2)), .bool adds] w fun e w' => ∃ A n c, e = .returned (.slice A n c) ∧ ZO w' w.heap.size 68 4 A n c ((m.relsOf adds).map Re.C) ∧ Grow w w' := by
 have HEn := hid (fun W (hW : Grow w W) => rEnts_any m ok hsm A1 n1 c1 A2 n2 c2 W (g1.grow hW))
 have HF := hid (fun t AL nL cL W (gl : ZS W W.heap.size 2 AL nL cL (m.ents.map Dy.C)) => dFindRef_any AL nL cL m.ents t W gl)
 have HS := hid g1
 have HL := hid g1.len
 have hx : (m.relA adds).1 < 18446744073709551616 := dyF_lt (ents_ok m)
 have hz : (m.relZ adds).1 < 18446744073709551616 := dyF_lt (ents_ok m)
 have HFn := hid (fun W (hW : Grow w W) => rAmong_any m ok A1 A2 n1 c1 n2 c2 (m.relA adds).1 (m.relZ adds).1 W (g1.grow hW) hx hz)
 have HN := hid (fun h => relsOf_none (m := m) (adds := adds) h)
 have HO := hid (fun h => relsOf_out (m := m) (adds := adds) h)
 have HM := hid (fun k p hk h h2 => relsOf_some (m := m) (adds := adds) h (k := k) (p := p) h2 hk)
 have HAm := hid (fun k p h => Md.among_some (m := m) (a := (m.relA adds).1) (n := (m.relZ adds).1) (i := k) (p := p) h)
 have HSm := hid hsm
 have hXe : Hid (m.relA adds = dyF m.ents (relT adds)) := hid rfl
 have hZe : Hid (m.relZ adds = dyF m.ents (relT adds + 1)) := hid rfl
 have hcc := g1.cap
 have hcm := g1.max
 unfold maxLen at hcm
 obtain ⟨x2, x3, x4, x5, x6, x7, x10, hC⟩ : ∃ x2 x3 x4 x5 x6 x7 x10 : Value, mdC m (.slice A1 n1 c1) (.slice A2 n2 c2) = #[.bool m.wide, .bool m.big, x2, x3, x4, x5, x6, x7, .slice A1 n1 c1, .slice A2 n2 c2, x10] := ⟨_, _, _, _, _, _, _, rfl⟩
 rw [hC] at HFn HEn ⊢
 clear hC g1 ok hsm
 unfold Md.Small at HSm
 generalize m.relA adds = X at *
 generalize m.relZ adds = Z at *
 generalize m.relsOf adds = RS at *
 generalize m.ents = E0 at *
 generalize hAm : m.among X.1 Z.1 = AM at *
 clear hAm
 generalize m.wide = wi at *
 generalize m.big = bi at *
 generalize m.segs = l at *
 obtain ⟨xa, xb⟩ := X
 obtain ⟨za, zb⟩ := Z
 simp only [] at hx hz HFn HN HO HM HAm
 cases adds with
 | true =>
  have HFX : Hid (∀ AL nL cL W, ZS W W.heap.size 2 AL nL cL (E0.map Dy.C) → Calls Try.prog 50 #[.slice AL nL cL, .int .u64 7] W fun e w' => e = .returned (.tuple #[.int .u64 (xa : Nat), .bool xb]) ∧ Grow W w') := hid fun AL nL cL W gl => by
   have h := HF.out 7 AL nL cL W gl
   unfold DFind at h
   rw [← show (xa, xb) = dyF E0 7 from hXe.out] at h
   exact h
  have HFZ : Hid (∀ AL nL cL W, ZS W W.heap.size 2 AL nL cL (E0.map Dy.C) → Calls Try.prog 50 #[.slice AL nL cL, .int .u64 8] W fun e w' => e = .returned (.tuple #[.int .u64 (za : Nat), .bool zb]) ∧ Grow W w') := hid fun AL nL cL W gl => by
   have h := HF.out 8 AL nL cL W gl
   unfold DFind at h
   rw [← show (za, zb) = dyF E0 8 from hZe.out] at h
   exact h
  clear HF hXe hZe
  go_enter Try.func23, Try.ntmps23
  go_wp2_with fail
  generalize hW : World.alloc _ _ = W0
  obtain ⟨b1, hg0⟩ := blk1 hW
  clear hW
  obtain ⟨v0, v1, v2, v3, v4, v5, v6, v7, v8, v9, v10⟩ := b1.c11
  have HB0 := hid b1
  have HG0 := hid hg0
  clear b1 hg0
  generalize w.heap.size = gm at HB0 v0 v1 v2 v3 v4 v5 v6 v7 v8 v9 v10 ⊢
  go_wp2_with fail
  clear v0 v1 v2 v3 v4 v5 v6 v7 v8 v9 v10
  refine (HEn.out _ HG0.out).mono ?_
  rintro e w0 ⟨AL, nL, cL, rfl, hzl, hg0⟩
  have HB0' := hid (HB0.out.grow hg0)
  have HG0' : Hid (Grow w w0) := hid (HG0.out.trans hg0)
  have HZ0 := hid hzl.zs
  clear hzl hg0 HB0 HG0 HEn
  go_wp2_with fail
  refine (HFX.out AL nL cL w0 HZ0.out).mono ?_
  rintro e w1 ⟨rfl, hg1⟩
  have HB1 := hid (HB0'.out.grow hg1)
  have HG1 : Hid (Grow w w1) := hid (HG0'.out.trans hg1)
  have HZ1 := hid (HZ0.out.grow hg1)
  clear hg1 HFX HB0' HG0' HZ0
  go_wp2_with fail
  refine (HFZ.out AL nL cL w1 HZ1.out).mono ?_
  rintro e w2 ⟨rfl, hg2⟩
  have HB2 := hid (HB1.out.grow hg2)
  have HG2 : Hid (Grow w w2) := hid (HG1.out.trans hg2)
  clear hg2 HFZ HB1 HG1 HZ1
  obtain ⟨v0, v1, v2, v3, v4, v5, v6, v7, v8, v9, v10⟩ := HB2.out.c11
  go_wp2_with fail
  clear v0 v1 v2 v3 v4 v5 v6 v7 v8 v9 v10
  refine (HFn.out w2 HG2.out).mono ?_
  rintro e w3 ⟨he, hg3⟩
  have HB3 := hid (HB2.out.grow hg3)
  have HG3 : Hid (Grow w w3) := hid (HG2.out.trans hg3)
  clear hg3 HFn HB2 HG2
  cases AM with
  | none =>
   have hR := hid (HO.out rfl)
   unfold amE at he
   subst he
   clear HAm HM HN HO
   cases xb with
   | false =>
    go_wp2
    go_ret
    exact ⟨none, 0, 0, rfl, by rw [hR.out]; exact ZO.nil, HG3.out⟩
   | true =>
    cases zb with
    | false =>
     go_wp2
     go_ret
     exact ⟨none, 0, 0, rfl, by rw [hR.out]; exact ZO.nil, HG3.out⟩
    | true =>
     go_wp2
     go_ret
     exact ⟨none, 0, 0, rfl, by rw [hR.out]; exact ZO.nil, HG3.out⟩
  | some x =>
   obtain ⟨k, p⟩ := x
   unfold amE at he
   simp only [] at he
   subst he
   cases xb with
   | false =>
    have hR := hid (HN.out rfl)
    go_wp2
    go_ret
    exact ⟨none, 0, 0, rfl, by rw [hR.out]; exact ZO.nil, HG3.out⟩
   | true =>
    cases zb with
    | false =>
     have hR := hid (HN.out rfl)
     go_wp2
     go_ret
     exact ⟨none, 0, 0, rfl, by rw [hR.out]; exact ZO.nil, HG3.out⟩
    | true =>
     obtain ⟨hkl, -, -, -, hle⟩ := HAm.out k p rfl
     have hR := HM.out k p hkl rfl rfl
     obtain ⟨b, off, rfl, hb⟩ := HS.out.pos (by have := HL.out; omega)
     obtain ⟨Ak, nk, ck, -, hcell, hby⟩ := HS.out.at hkl
     have hown := HSm.out l[k] (List.getElem_mem hkl)
     have q9 : w3.cell? ⟨b, off + k * 10 + 9, none⟩ = some (.slice Ak nk ck) := (Below.cell HG3.out hb).trans (hcell 9 _ rfl)
     obtain ⟨BB, hby'⟩ : ∃ BB, RB w BB Ak nk ck l[k].pl.own ∧ BB ≤ w3.heap.size ∧ (∀ W, Grow w W → ∀ A n c l', RB w BB A n c l' → RB W W.heap.size A n c l') := ⟨w.heap.size, hby, HG3.out.size, fun W hW A n c l' h => h.grow hW⟩
     obtain ⟨hby', -, hgrow⟩ := hby'
     have hnk := hby'.len
     rw [← hnk] at hle hown
     obtain ⟨A', c', hrun, hr⟩ := cutK_any .i64 .i64 hby' hle
     have hll : ((l[k].pl.own.drop p).take za).length = za := by rw [← hr.len]
     generalize (l[k].pl.own.drop p).take za = bl at hr hR hll
     have HAl := hid (fun W (hW : Grow w W) => rAllE_uni A' za c' bl wi true bi W (hgrow W hW _ _ _ _ hr) (by omega))
     rw [← hR] at HAl
     have z1 : IntKind.i64.wrap ((p : Int) + (za : Int)) = (p : Int) + (za : Int) := by rw [IntKind.wrap_i64]; omega
     have z2 : IntKind.i64.wrap (za : Int) = (za : Int) := by rw [IntKind.wrap_i64]; omega
     have d0 : decide ((k : Int) < 0) = false := decide_eq_false (by omega)
     have i0 : (0 : Int) ≤ (k : Int) := by omega
     have i1 : (k : Int) < (n1 : Int) := by have := HL.out; omega
     have HQ9 := hid q9
     have HBb := hid (Nat.lt_of_lt_of_le hb HG3.out.size)
     clear hle hcell hb hby hby' hnk hr hR hll hown HAm HM HN HO HS HL HSm hx hz hkl q9 hgrow
     go_wp2_with fail
     refine wp_region_chain [(0, true), (1, true), (2, true), (3, true), (4, true), (5, true), (6, true), (7, true), (8, true), (9, true), (10, true), (11, true), (12, true), (13, true), (14, true), (15, true), (16, true), (17, false), (18, true), (19, true), (20, true), (21, true), (22, true)] (by kernel_rfl) (by kernel_rfl) (by kernel_rfl) ?_
     have HB4 := hid HB3.out.drew
     have HG4 : Hid (Grow w w3.drew) := hid (HG3.out.trans (Grow.of_drew _))
     have HQ4 : Hid (w3.drew.cell? ⟨b, off + k * 10 + 9, none⟩ = some (.slice Ak nk ck)) := HQ9
     have HBd : Hid (b < w3.drew.heap.size) := HBb
     clear HB3 HG3 HQ9 HBb
     generalize w3.drew = V0 at *
     have q0 : ∀ W, Grow V0 W → _ := fun W hW => (HB4.out.grow hW).c11
     have q1 : ∀ W, Grow V0 W → W.cell? ⟨b, off + k * 10 + 9, none⟩ = some (.slice Ak nk ck) := fun W hW => (Below.cell hW HBd.out).trans HQ4.out
     repeat (refine chain_take rfl (by rfl) ?_ (fun W hG => ?_) ?_; rotate_left; (obtain ⟨v0, v1, v2, v3, v4, v5, v6, v7, v8, v9, v10⟩ := q0 W hG; have u9 := q1 W hG; go_simp; rfl); simp only [Act.put, List.setIfInBounds_toArray, List.set_cons_zero, List.set_cons_succ])
     clear q0 q1
     refine chain_only rfl (by rfl) (fun K hK => ?_)
     go_simp
     refine (HAl.out V0 HG4.out).mono ?_
     rintro e v1 ⟨A6, n6, c6, at_, rfl, hz1, hz2, hg⟩
     refine hK _ _ hg ?_
     clear hK K
     have HG5 : Hid (Grow w v1) := hid (HG4.out.trans hg)
     have HZ1 := hid (fun h => (hz1 h).mono HG4.out.size)
     have HZ2 := hid hz2
     clear hg hz1 hz2 HB4 HG4 HQ4 HBd HAl hrun
     repeat (refine chain_take rfl (by rfl) ?_ (fun W hG => ?_) ?_; rotate_left; (go_simp; rfl); simp only [Act.put, List.setIfInBounds_toArray, List.set_cons_zero, List.set_cons_succ])
     refine chain_done ?_
     by_cases h0 : 0 ≤ at_
     ·have hR := hid (HZ2.out h0)
      have d2 : decide (0 ≤ at_) = true := decide_eq_true h0
      clear HZ1 HZ2 h0
      go_wp2
      go_ret
      exact ⟨none, 0, 0, rfl, by rw [hR.out]; exact ZO.nil, HG5.out⟩
     ·have hR := hid (HZ1.out (by omega))
      have d2 : decide (0 ≤ at_) = false := decide_eq_false h0
      clear HZ1 HZ2 h0
      go_wp2
      go_ret
      exact ⟨A6, n6, c6, rfl, hR.out, HG5.out⟩
 | false =>
  have HFX : Hid (∀ AL nL cL W, ZS W W.heap.size 2 AL nL cL (E0.map Dy.C) → Calls Try.prog 50 #[.slice AL nL cL, .int .u64 17] W fun e w' => e = .returned (.tuple #[.int .u64 (xa : Nat), .bool xb]) ∧ Grow W w') := hid fun AL nL cL W gl => by
   have h := HF.out 17 AL nL cL W gl
   unfold DFind at h
   rw [← show (xa, xb) = dyF E0 17 from hXe.out] at h
   exact h
  have HFZ : Hid (∀ AL nL cL W, ZS W W.heap.size 2 AL nL cL (E0.map Dy.C) → Calls Try.prog 50 #[.slice AL nL cL, .int .u64 18] W fun e w' => e = .returned (.tuple #[.int .u64 (za : Nat), .bool zb]) ∧ Grow W w') := hid fun AL nL cL W gl => by
   have h := HF.out 18 AL nL cL W gl
   unfold DFind at h
   rw [← show (za, zb) = dyF E0 18 from hZe.out] at h
   exact h
  clear HF hXe hZe
  go_enter Try.func23, Try.ntmps23
  go_wp2_with fail
  generalize hW : World.alloc _ _ = W0
  obtain ⟨b1, hg0⟩ := blk1 hW
  clear hW
  obtain ⟨v0, v1, v2, v3, v4, v5, v6, v7, v8, v9, v10⟩ := b1.c11
  have HB0 := hid b1
  have HG0 := hid hg0
  clear b1 hg0
  generalize w.heap.size = gm at HB0 v0 v1 v2 v3 v4 v5 v6 v7 v8 v9 v10 ⊢
  go_wp2_with fail
  clear v0 v1 v2 v3 v4 v5 v6 v7 v8 v9 v10
  refine (HEn.out _ HG0.out).mono ?_
  rintro e w0 ⟨AL, nL, cL, rfl, hzl, hg0⟩
  have HB0' := hid (HB0.out.grow hg0)
  have HG0' : Hid (Grow w w0) := hid (HG0.out.trans hg0)
  have HZ0 := hid hzl.zs
  clear hzl hg0 HB0 HG0 HEn
  go_wp2_with fail
  refine (HFX.out AL nL cL w0 HZ0.out).mono ?_
  rintro e w1 ⟨rfl, hg1⟩
  have HB1 := hid (HB0'.out.grow hg1)
  have HG1 : Hid (Grow w w1) := hid (HG0'.out.trans hg1)
  have HZ1 := hid (HZ0.out.grow hg1)
  clear hg1 HFX HB0' HG0' HZ0
  go_wp2_with fail
  refine (HFZ.out AL nL cL w1 HZ1.out).mono ?_
  rintro e w2 ⟨rfl, hg2⟩
  have HB2 := hid (HB1.out.grow hg2)
  have HG2 : Hid (Grow w w2) := hid (HG1.out.trans hg2)
  clear hg2 HFZ HB1 HG1 HZ1
  obtain ⟨v0, v1, v2, v3, v4, v5, v6, v7, v8, v9, v10⟩ := HB2.out.c11
  go_wp2_with fail
  clear v0 v1 v2 v3 v4 v5 v6 v7 v8 v9 v10
  refine (HFn.out w2 HG2.out).mono ?_
  rintro e w3 ⟨he, hg3⟩
  have HB3 := hid (HB2.out.grow hg3)
  have HG3 : Hid (Grow w w3) := hid (HG2.out.trans hg3)
  clear hg3 HFn HB2 HG2
  cases AM with
  | none =>
   have hR := hid (HO.out rfl)
   unfold amE at he
   subst he
   clear HAm HM HN HO
   cases xb with
   | false =>
    go_wp2
    go_ret
    exact ⟨none, 0, 0, rfl, by rw [hR.out]; exact ZO.nil, HG3.out⟩
   | true =>
    cases zb with
    | false =>
     go_wp2
     go_ret
     exact ⟨none, 0, 0, rfl, by rw [hR.out]; exact ZO.nil, HG3.out⟩
    | true =>
     go_wp2
     go_ret
     exact ⟨none, 0, 0, rfl, by rw [hR.out]; exact ZO.nil, HG3.out⟩
  | some x =>
   obtain ⟨k, p⟩ := x
   unfold amE at he
   simp only [] at he
   subst he
   cases xb with
   | false =>
    have hR := hid (HN.out rfl)
    go_wp2
    go_ret
    exact ⟨none, 0, 0, rfl, by rw [hR.out]; exact ZO.nil, HG3.out⟩
   | true =>
    cases zb with
    | false =>
     have hR := hid (HN.out rfl)
     go_wp2
     go_ret
     exact ⟨none, 0, 0, rfl, by rw [hR.out]; exact ZO.nil, HG3.out⟩
    | true =>
     obtain ⟨hkl, -, -, -, hle⟩ := HAm.out k p rfl
     have hR := HM.out k p hkl rfl rfl
     obtain ⟨b, off, rfl, hb⟩ := HS.out.pos (by have := HL.out; omega)
     obtain ⟨Ak, nk, ck, -, hcell, hby⟩ := HS.out.at hkl
     have hown := HSm.out l[k] (List.getElem_mem hkl)
     have q9 : w3.cell? ⟨b, off + k * 10 + 9, none⟩ = some (.slice Ak nk ck) := (Below.cell HG3.out hb).trans (hcell 9 _ rfl)
     obtain ⟨BB, hby'⟩ : ∃ BB, RB w BB Ak nk ck l[k].pl.own ∧ BB ≤ w3.heap.size ∧ (∀ W, Grow w W → ∀ A n c l', RB w BB A n c l' → RB W W.heap.size A n c l') := ⟨w.heap.size, hby, HG3.out.size, fun W hW A n c l' h => h.grow hW⟩
     obtain ⟨hby', -, hgrow⟩ := hby'
     have hnk := hby'.len
     rw [← hnk] at hle hown
     obtain ⟨A', c', hrun, hr⟩ := cutK_any .i64 .i64 hby' hle
     have hll : ((l[k].pl.own.drop p).take za).length = za := by rw [← hr.len]
     generalize (l[k].pl.own.drop p).take za = bl at hr hR hll
     have HAl := hid (fun W (hW : Grow w W) => rAllE_uni A' za c' bl wi false bi W (hgrow W hW _ _ _ _ hr) (by omega))
     rw [← hR] at HAl
     have z1 : IntKind.i64.wrap ((p : Int) + (za : Int)) = (p : Int) + (za : Int) := by rw [IntKind.wrap_i64]; omega
     have z2 : IntKind.i64.wrap (za : Int) = (za : Int) := by rw [IntKind.wrap_i64]; omega
     have d0 : decide ((k : Int) < 0) = false := decide_eq_false (by omega)
     have i0 : (0 : Int) ≤ (k : Int) := by omega
     have i1 : (k : Int) < (n1 : Int) := by have := HL.out; omega
     have HQ9 := hid q9
     have HBb := hid (Nat.lt_of_lt_of_le hb HG3.out.size)
     clear hle hcell hb hby hby' hnk hr hR hll hown HAm HM HN HO HS HL HSm hx hz hkl q9 hgrow
     go_wp2_with fail
     refine wp_region_chain [(0, true), (1, true), (2, true), (3, true), (4, true), (5, true), (6, true), (7, true), (8, true), (9, true), (10, true), (11, true), (12, true), (13, true), (14, true), (15, true), (16, true), (17, false), (18, true), (19, true), (20, true), (21, true), (22, true)] (by kernel_rfl) (by kernel_rfl) (by kernel_rfl) ?_
     have HB4 := hid HB3.out.drew
     have HG4 : Hid (Grow w w3.drew) := hid (HG3.out.trans (Grow.of_drew _))
     have HQ4 : Hid (w3.drew.cell? ⟨b, off + k * 10 + 9, none⟩ = some (.slice Ak nk ck)) := HQ9
     have HBd : Hid (b < w3.drew.heap.size) := HBb
     clear HB3 HG3 HQ9 HBb
     generalize w3.drew = V0 at *
     have q0 : ∀ W, Grow V0 W → _ := fun W hW => (HB4.out.grow hW).c11
     have q1 : ∀ W, Grow V0 W → W.cell? ⟨b, off + k * 10 + 9, none⟩ = some (.slice Ak nk ck) := fun W hW => (Below.cell hW HBd.out).trans HQ4.out
     repeat (refine chain_take rfl (by rfl) ?_ (fun W hG => ?_) ?_; rotate_left; (obtain ⟨v0, v1, v2, v3, v4, v5, v6, v7, v8, v9, v10⟩ := q0 W hG; have u9 := q1 W hG; go_simp; rfl); simp only [Act.put, List.setIfInBounds_toArray, List.set_cons_zero, List.set_cons_succ])
     clear q0 q1
     refine chain_only rfl (by rfl) (fun K hK => ?_)
     go_simp
     refine (HAl.out V0 HG4.out).mono ?_
     rintro e v1 ⟨A6, n6, c6, at_, rfl, hz1, hz2, hg⟩
     refine hK _ _ hg ?_
     clear hK K
     have HG5 : Hid (Grow w v1) := hid (HG4.out.trans hg)
     have HZ1 := hid (fun h => (hz1 h).mono HG4.out.size)
     have HZ2 := hid hz2
     clear hg hz1 hz2 HB4 HG4 HQ4 HBd HAl hrun
     repeat (refine chain_take rfl (by rfl) ?_ (fun W hG => ?_) ?_; rotate_left; (go_simp; rfl); simp only [Act.put, List.setIfInBounds_toArray, List.set_cons_zero, List.set_cons_succ])
     refine chain_done ?_
     by_cases h0 : 0 ≤ at_
     ·have hR := hid (HZ2.out h0)
      have d2 : decide (0 ≤ at_) = true := decide_eq_true h0
      clear HZ1 HZ2 h0
      go_wp2
      go_ret
      exact ⟨none, 0, 0, rfl, by rw [hR.out]; exact ZO.nil, HG5.out⟩
     ·have hR := hid (HZ1.out (by omega))
      have d2 : decide (0 ≤ at_) = false := decide_eq_false h0
      clear HZ1 HZ2 h0
      go_wp2
      go_ret
      exact ⟨A6, n6, c6, rfl, hR.out, HG5.out⟩
end Go.Proofs.Ytfpihkbpelbcbaa
