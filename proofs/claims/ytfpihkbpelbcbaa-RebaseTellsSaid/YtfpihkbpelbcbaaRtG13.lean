/-
  Several texts in one: The contract of rebase; The contract of rebase.
-/
import Derived.Test.YtfpihkbpelbcbaaRtG11
import Derived.Test.YtfpihkbpelbcbaaRtG12
import Derived.Test.YtfpihkbpelbcbaaRtG10
namespace Go.Proofs.Ytfpihkbpelbcbaa
open Go.Lib (hid)
open Go.RowKit
set_option maxRecDepth 100000
set_option linter.unusedVariables false
def relsIf (l : List UInt8) (wide adds big : Bool) : List Re := if l.length % reSize wide adds = 0 then rels l wide adds big else []
theorem eAll_uni (A : Option Addr) (n c : Nat) (l : List UInt8) (wide adds big : Bool) (w : World) (h : RB w w.heap.size A n c l) (h10 : l.length ≤ 100000) :
  Calls Try.prog 68 #[.slice A n c, .agg #[.bool wide, .bool big], .bool adds] w fun e w' => ∃ A2 n2 c2 er, e = .returned (.tuple #[.slice A2 n2 c2, er]) ∧ ZO w' w.heap.size 68 4 A2 n2 c2 ((relsIf l wide adds big).map Re.C) ∧ Grow w w' := by
 refine (eAllO_any A n c l wide adds big w h h10).mono ?_
 rintro e w' (⟨hi, A2, c2, rfl, h2, hg⟩ | ⟨hi, er, rfl, -, hg⟩)
 ·exact ⟨A2, _, c2, .nilIface, rfl, by unfold relsIf; rw [if_pos hi]; exact h2, hg⟩
 ·exact ⟨none, 0, 0, er, rfl, by unfold relsIf; rw [if_neg hi]; exact ZO.nil, hg⟩
theorem dyF_lt {t : Nat} : ∀ {L : List Dy}, (∀ s ∈ L, s.Ok) → (dyF L t).1 < 18446744073709551616
 | [], _ => by unfold dyF; decide
 | s :: L, h => by
  unfold dyF
  split
  ·exact (h s (by simp)).val
  ·exact dyF_lt fun x hx => h x (by simp [hx])
theorem ents_ok (m : Md) : ∀ s ∈ m.ents, s.Ok := fun s hs => by
 unfold Md.ents at hs
 split at hs
 ·split at hs
  ·unfold dyns dynTo at hs
   obtain ⟨i, -, rfl⟩ := List.mem_map.1 hs
   exact dyOf_ok _ _ _ _
  ·simp at hs
 ·simp at hs
theorem Md.relsOf_of (m : Md) (adds : Bool) : m.relsOf adds = if (m.relA adds).2 && (m.relZ adds).2 then (match m.among (m.relA adds).1 (m.relZ adds).1 with | none => [] | some x => relsIf (m.relB x adds) m.wide adds m.big) else [] := rfl
theorem relsOf_none {m : Md} {adds : Bool} (h : ((m.relA adds).2 && (m.relZ adds).2) = false) : m.relsOf adds = [] := by rw [m.relsOf_of, h]; rfl
theorem relsOf_out {m : Md} {adds : Bool} (h : m.among (m.relA adds).1 (m.relZ adds).1 = none) : m.relsOf adds = [] := by rw [m.relsOf_of, h]; split <;> rfl
theorem relsOf_some {m : Md} {adds : Bool} (h : ((m.relA adds).2 && (m.relZ adds).2) = true) {k p : Nat} (h2 : m.among (m.relA adds).1 (m.relZ adds).1 = some (k, p)) (hk : k < m.segs.length) : m.relsOf adds = relsIf ((m.segs[k].pl.own.drop p).take (m.relZ adds).1) m.wide adds m.big := by
 rw [m.relsOf_of, h, h2, if_pos rfl]
 show relsIf (((m.segs.getD k sg0).pl.own.drop p).take (m.relZ adds).1) m.wide adds m.big = _
 rw [getD_at hk]
set_option maxHeartbeats 4000000 in
theorem rbRels_any (m : Md) (ok : m.Ok) (hsm : m.Small) (A1 : Option Addr) (n1 c1 : Nat) (S2 : Value) (AL : Option Addr) (nL cL : Nat) (adds : Bool) (w : World) (g1 : ZR sgK w w.heap.size A1 n1 c1 m.segs) (gl : ZS w w.heap.size 2 AL nL cL (m.ents.map Dy.C)) :
  Calls Try.prog 44 #[.agg (mdC m (.slice A1 n1 c1) S2), .slice AL nL cL, .bool adds] w fun e w' => ∃ A n c, e = .returned (.slice A n c) ∧ ZO w' w.heap.size 68 4 A n c ((m.relsOf adds).map Re.C) ∧ Grow w w' := by
 have HF := hid (fun t W (hW : Grow w W) => dFind_any AL nL cL m.ents t W (gl.grow hW))
 have HS := hid g1
 have HL := hid g1.len
 have hx : (m.relA adds).1 < 18446744073709551616 := dyF_lt (ents_ok m)
 have hz : (m.relZ adds).1 < 18446744073709551616 := dyF_lt (ents_ok m)
 have HFn := hid (fun W (hW : Grow w W) => rbFind_any m ok A1 n1 c1 S2 (m.relA adds).1 (m.relZ adds).1 W (g1.grow hW) hx hz)
 have HN := hid (fun h => relsOf_none (m := m) (adds := adds) h)
 have HO := hid (fun h => relsOf_out (m := m) (adds := adds) h)
 have HM := hid (fun k p hk h h2 => relsOf_some (m := m) (adds := adds) h (k := k) (p := p) h2 hk)
 have HAm := hid (fun k p h => Md.among_some (m := m) (a := (m.relA adds).1) (n := (m.relZ adds).1) (i := k) (p := p) h)
 have HSm := hid hsm
 have hXe : Hid (m.relA adds = dyF m.ents (relT adds)) := hid rfl
 have hZe : Hid (m.relZ adds = dyF m.ents (relT adds + 1)) := hid rfl
 have hcc := g1.cap
 have hcm := g1.max
 unfold maxLen at hcm
 obtain ⟨x2, x3, x4, x5, x6, x7, x10, hC⟩ : ∃ x2 x3 x4 x5 x6 x7 x10 : Value, mdC m (.slice A1 n1 c1) S2 = #[.bool m.wide, .bool m.big, x2, x3, x4, x5, x6, x7, .slice A1 n1 c1, S2, x10] := ⟨_, _, _, _, _, _, _, rfl⟩
 rw [hC] at HFn ⊢
 clear hC g1 gl ok hsm
 unfold Md.Small at HSm
 generalize m.relA adds = X at *
 generalize m.relZ adds = Z at *
 generalize m.relsOf adds = RS at *
 generalize m.ents = E0 at *
 generalize hAm : m.among X.1 Z.1 = AM at *
 generalize m.wide = wi at *
 generalize m.big = bi at *
 have HAM := hid hAm
 clear hAm
 generalize m.segs = l at *
 obtain ⟨xa, xb⟩ := X
 obtain ⟨za, zb⟩ := Z
 simp only [] at hx hz HFn HN HO HM HAm HAM
 cases adds with
 | true =>
  have HFX : Hid (∀ W, Grow w W → Calls Try.prog 66 #[.slice AL nL cL, .int .u64 7] W fun e w' => e = .returned (.tuple #[.int .u64 (xa : Nat), .bool xb]) ∧ Grow W w') := hid fun W hW => by
   have h := HF.out 7 W hW
   unfold DFind at h
   rw [← show (xa, xb) = dyF E0 7 from hXe.out] at h
   exact h
  have HFZ : Hid (∀ W, Grow w W → Calls Try.prog 66 #[.slice AL nL cL, .int .u64 8] W fun e w' => e = .returned (.tuple #[.int .u64 (za : Nat), .bool zb]) ∧ Grow W w') := hid fun W hW => by
   have h := HF.out 8 W hW
   unfold DFind at h
   rw [← show (za, zb) = dyF E0 8 from hZe.out] at h
   exact h
  clear HF hXe hZe HAM
  go_enter Try.func44, Try.ntmps44
  go_wp2_with fail
  generalize hW : World.alloc _ _ = W0
  obtain ⟨b1, hg0⟩ := blk1 hW
  clear hW
  refine (HFX.out _ hg0).mono ?_
  rintro e w1 ⟨rfl, hg1⟩
  have HB1 := hid (b1.grow hg1)
  have HG1 : Hid (Grow w w1) := hid (hg0.trans hg1)
  clear b1 hg0 hg1 HFX
  generalize w.heap.size = gm at HB1 ⊢
  go_wp2_with fail
  refine (HFZ.out _ HG1.out).mono ?_
  rintro e w2 ⟨rfl, hg2⟩
  have HB2 := hid (HB1.out.grow hg2)
  have HG2 : Hid (Grow w w2) := hid (HG1.out.trans hg2)
  clear hg2 HFZ HB1 HG1
  obtain ⟨v0, v1, v2, v3, v4, v5, v6, v7, v8, v9, v10⟩ := HB2.out.c11
  cases xb with
  | false =>
   have hR := HN.out rfl
   clear v0 v1 v2 v3 v4 v5 v6 v7 v8 v9 v10
   go_wp2
   go_ret
   exact ⟨none, 0, 0, rfl, by rw [hR]; exact ZO.nil, HG2.out⟩
  | true =>
   cases zb with
   | false =>
    have hR := HN.out rfl
    clear v0 v1 v2 v3 v4 v5 v6 v7 v8 v9 v10
    go_wp2
    go_ret
    exact ⟨none, 0, 0, rfl, by rw [hR]; exact ZO.nil, HG2.out⟩
   | true =>
    go_wp2_with fail
    refine (HFn.out _ HG2.out).mono ?_
    rintro e w3 ⟨he, hg3⟩
    have HB3 := hid (HB2.out.grow hg3)
    have HG3 : Hid (Grow w w3) := hid (HG2.out.trans hg3)
    clear hg3 HFn HB2 HG2 v0 v1 v2 v3 v4 v5 v6 v7 v8 v9 v10
    cases AM with
    | none =>
     have hR := HO.out rfl
     unfold fndE at he
     subst he
     clear HAm HM HN HO
     go_wp2
     go_ret
     exact ⟨none, 0, 0, rfl, by rw [hR]; exact ZO.nil, HG3.out⟩
    | some x =>
     obtain ⟨k, p⟩ := x
     unfold fndE at he
     simp only [] at he
     subst he
     obtain ⟨hkl, -, -, -, hle⟩ := HAm.out k p rfl
     have hR := HM.out k p hkl rfl rfl
     obtain ⟨b, off, rfl, hb⟩ := HS.out.pos (by have := HL.out; omega)
     obtain ⟨Ak, nk, ck, -, hcell, hby⟩ := HS.out.at hkl
     have hown := HSm.out l[k] (List.getElem_mem hkl)
     have q9 : w3.cell? ⟨b, off + k * 10 + 9, none⟩ = some (.slice Ak nk ck) := (Below.cell HG3.out hb).trans (hcell 9 _ rfl)
     have hby' : RB w w.heap.size Ak nk ck l[k].pl.own := hby
     have hnk := hby'.len
     rw [← hnk] at hle hown
     obtain ⟨A', c', hrun, hr⟩ := cut_any hby' hle
     have hll : ((l[k].pl.own.drop p).take za).length = za := by rw [← hr.len]
     generalize (l[k].pl.own.drop p).take za = bl at hr hR hll
     have HRb := hid hr
     have HAl := hid (fun W (hW : Grow w W) => eAll_uni A' za c' bl wi true bi W (HRb.out.grow hW) (by omega))
     rw [← hR] at HAl
     have z1 : IntKind.u64.wrap ((p : Int) + (za : Int)) = (p : Int) + (za : Int) := by rw [IntKind.wrap_u64]; omega
     have i0 : (0 : Int) ≤ (k : Int) := by omega
     have i1 : (k : Int) < (n1 : Int) := by have := HL.out; omega
     clear hle hcell hby hby' hnk hr hR hll hown HAm HM HN HO HS HL HSm HRb hx hz hkl
     go_wp2_with fail
     have HQ9 := hid q9
     have HBb := hid (Nat.lt_of_lt_of_le hb HG3.out.size)
     clear q9 hb
     refine wp_region_chain [(0, true), (1, true), (2, true), (3, true), (4, true), (5, true), (6, true), (7, true), (8, true), (9, true), (10, true), (11, true), (12, true), (13, true), (14, true), (15, true), (16, false), (17, true), (18, true), (19, true), (20, true), (21, true)] (by kernel_rfl) (by kernel_rfl) (by kernel_rfl) ?_
     have HB4 := hid HB3.out.drew
     have HG4 : Hid (Grow w w3.drew) := hid (HG3.out.trans (Grow.of_drew _))
     have HQ4 : Hid (w3.drew.cell? ⟨b, off + k * 10 + 9, none⟩ = some (.slice Ak nk ck)) := HQ9
     have HBd : Hid (b < w3.drew.heap.size) := HBb
     clear HB3 HG3 HQ9 HBb
     generalize w3.drew = V0 at *
     have q0 : ∀ W, Grow V0 W → _ := fun W hW => (HB4.out.grow hW).c11
     have q1 : ∀ W, Grow V0 W → W.cell? ⟨b, off + k * 10 + 9, none⟩ = some (.slice Ak nk ck) := fun W hW => (Below.cell hW HBd.out).trans HQ4.out
     repeat (refine chain_take rfl (by rfl) ?_ (fun W hG => ?_) ?_; rotate_left; (obtain ⟨v0, v1, v2, v3, v4, v5, v6, v7, v8, v9, v10⟩ := q0 W hG; have u9 := q1 W hG; go_simp; rfl); simp only [Act.put, List.setIfInBounds_toArray, List.set_cons_zero, List.set_cons_succ])
     clear q0 q1
     refine chain_only rfl (by rfl) (fun K hK => ?_)
     go_simp
     refine (HAl.out V0 HG4.out).mono ?_
     rintro e v1 ⟨A6, n6, c6, er, rfl, hz, hg⟩
     refine hK _ _ hg ?_
     clear hK K
     have HZ5 := hid (hz.mono HG4.out.size)
     have HG5 : Hid (Grow w v1) := hid (HG4.out.trans hg)
     clear hg hz HB4 HG4 HQ4 HBd HAl hrun
     repeat (refine chain_take rfl (by rfl) ?_ (fun W hG => ?_) ?_; rotate_left; (go_simp; rfl); simp only [Act.put, List.setIfInBounds_toArray, List.set_cons_zero, List.set_cons_succ])
     refine chain_done ?_
     go_wp2
     go_ret
     exact ⟨A6, n6, c6, rfl, HZ5.out, HG5.out⟩
 | false =>
  have HFX : Hid (∀ W, Grow w W → Calls Try.prog 66 #[.slice AL nL cL, .int .u64 17] W fun e w' => e = .returned (.tuple #[.int .u64 (xa : Nat), .bool xb]) ∧ Grow W w') := hid fun W hW => by
   have h := HF.out 17 W hW
   unfold DFind at h
   rw [← show (xa, xb) = dyF E0 17 from hXe.out] at h
   exact h
  have HFZ : Hid (∀ W, Grow w W → Calls Try.prog 66 #[.slice AL nL cL, .int .u64 18] W fun e w' => e = .returned (.tuple #[.int .u64 (za : Nat), .bool zb]) ∧ Grow W w') := hid fun W hW => by
   have h := HF.out 18 W hW
   unfold DFind at h
   rw [← show (za, zb) = dyF E0 18 from hZe.out] at h
   exact h
  clear HF hXe hZe HAM
  go_enter Try.func44, Try.ntmps44
  go_wp2_with fail
  generalize hW : World.alloc _ _ = W0
  obtain ⟨b1, hg0⟩ := blk1 hW
  clear hW
  refine (HFX.out _ hg0).mono ?_
  rintro e w1 ⟨rfl, hg1⟩
  have HB1 := hid (b1.grow hg1)
  have HG1 : Hid (Grow w w1) := hid (hg0.trans hg1)
  clear b1 hg0 hg1 HFX
  generalize w.heap.size = gm at HB1 ⊢
  go_wp2_with fail
  refine (HFZ.out _ HG1.out).mono ?_
  rintro e w2 ⟨rfl, hg2⟩
  have HB2 := hid (HB1.out.grow hg2)
  have HG2 : Hid (Grow w w2) := hid (HG1.out.trans hg2)
  clear hg2 HFZ HB1 HG1
  obtain ⟨v0, v1, v2, v3, v4, v5, v6, v7, v8, v9, v10⟩ := HB2.out.c11
  cases xb with
  | false =>
   have hR := HN.out rfl
   clear v0 v1 v2 v3 v4 v5 v6 v7 v8 v9 v10
   go_wp2
   go_ret
   exact ⟨none, 0, 0, rfl, by rw [hR]; exact ZO.nil, HG2.out⟩
  | true =>
   cases zb with
   | false =>
    have hR := HN.out rfl
    clear v0 v1 v2 v3 v4 v5 v6 v7 v8 v9 v10
    go_wp2
    go_ret
    exact ⟨none, 0, 0, rfl, by rw [hR]; exact ZO.nil, HG2.out⟩
   | true =>
    go_wp2_with fail
    refine (HFn.out _ HG2.out).mono ?_
    rintro e w3 ⟨he, hg3⟩
    have HB3 := hid (HB2.out.grow hg3)
    have HG3 : Hid (Grow w w3) := hid (HG2.out.trans hg3)
    clear hg3 HFn HB2 HG2 v0 v1 v2 v3 v4 v5 v6 v7 v8 v9 v10
    cases AM with
    | none =>
     have hR := HO.out rfl
     unfold fndE at he
     subst he
     clear HAm HM HN HO
     go_wp2
     go_ret
     exact ⟨none, 0, 0, rfl, by rw [hR]; exact ZO.nil, HG3.out⟩
    | some x =>
     obtain ⟨k, p⟩ := x
     unfold fndE at he
     simp only [] at he
     subst he
     obtain ⟨hkl, -, -, -, hle⟩ := HAm.out k p rfl
     have hR := HM.out k p hkl rfl rfl
     obtain ⟨b, off, rfl, hb⟩ := HS.out.pos (by have := HL.out; omega)
     obtain ⟨Ak, nk, ck, -, hcell, hby⟩ := HS.out.at hkl
     have hown := HSm.out l[k] (List.getElem_mem hkl)
     have q9 : w3.cell? ⟨b, off + k * 10 + 9, none⟩ = some (.slice Ak nk ck) := (Below.cell HG3.out hb).trans (hcell 9 _ rfl)
     have hby' : RB w w.heap.size Ak nk ck l[k].pl.own := hby
     have hnk := hby'.len
     rw [← hnk] at hle hown
     obtain ⟨A', c', hrun, hr⟩ := cut_any hby' hle
     have hll : ((l[k].pl.own.drop p).take za).length = za := by rw [← hr.len]
     generalize (l[k].pl.own.drop p).take za = bl at hr hR hll
     have HRb := hid hr
     have HAl := hid (fun W (hW : Grow w W) => eAll_uni A' za c' bl wi false bi W (HRb.out.grow hW) (by omega))
     rw [← hR] at HAl
     have z1 : IntKind.u64.wrap ((p : Int) + (za : Int)) = (p : Int) + (za : Int) := by rw [IntKind.wrap_u64]; omega
     have i0 : (0 : Int) ≤ (k : Int) := by omega
     have i1 : (k : Int) < (n1 : Int) := by have := HL.out; omega
     clear hle hcell hby hby' hnk hr hR hll hown HAm HM HN HO HS HL HSm HRb hx hz hkl
     go_wp2_with fail
     have HQ9 := hid q9
     have HBb := hid (Nat.lt_of_lt_of_le hb HG3.out.size)
     clear q9 hb
     refine wp_region_chain [(0, true), (1, true), (2, true), (3, true), (4, true), (5, true), (6, true), (7, true), (8, true), (9, true), (10, true), (11, true), (12, true), (13, true), (14, true), (15, true), (16, false), (17, true), (18, true), (19, true), (20, true), (21, true)] (by kernel_rfl) (by kernel_rfl) (by kernel_rfl) ?_
     have HB4 := hid HB3.out.drew
     have HG4 : Hid (Grow w w3.drew) := hid (HG3.out.trans (Grow.of_drew _))
     have HQ4 : Hid (w3.drew.cell? ⟨b, off + k * 10 + 9, none⟩ = some (.slice Ak nk ck)) := HQ9
     have HBd : Hid (b < w3.drew.heap.size) := HBb
     clear HB3 HG3 HQ9 HBb
     generalize w3.drew = V0 at *
     have q0 : ∀ W, Grow V0 W → _ := fun W hW => (HB4.out.grow hW).c11
     have q1 : ∀ W, Grow V0 W → W.cell? ⟨b, off + k * 10 + 9, none⟩ = some (.slice Ak nk ck) := fun W hW => (Below.cell hW HBd.out).trans HQ4.out
     repeat (refine chain_take rfl (by rfl) ?_ (fun W hG => ?_) ?_; rotate_left; (obtain ⟨v0, v1, v2, v3, v4, v5, v6, v7, v8, v9, v10⟩ := q0 W hG; have u9 := q1 W hG; go_simp; rfl); simp only [Act.put, List.setIfInBounds_toArray, List.set_cons_zero, List.set_cons_succ])
     clear q0 q1
     refine chain_only rfl (by rfl) (fun K hK => ?_)
     go_simp
     refine (HAl.out V0 HG4.out).mono ?_
     rintro e v1 ⟨A6, n6, c6, er, rfl, hz, hg⟩
     refine hK _ _ hg ?_
     clear hK K
     have HZ5 := hid (hz.mono HG4.out.size)
     have HG5 : Hid (Grow w v1) := hid (HG4.out.trans hg)
     clear hg hz HB4 HG4 HQ4 HBd HAl hrun
     repeat (refine chain_take rfl (by rfl) ?_ (fun W hG => ?_) ?_; rotate_left; (go_simp; rfl); simp only [Act.put, List.setIfInBounds_toArray, List.set_cons_zero, List.set_cons_succ])
     refine chain_done ?_
     go_wp2
     go_ret
     exact ⟨A6, n6, c6, rfl, HZ5.out, HG5.out⟩
set_option maxRecDepth 100000
set_option linter.unusedVariables false
theorem segB_ok {s : Sg} (h : s.Ok) (b : List UInt8) : (segB s b).Ok := ⟨h.typ, h.flags, h.vaddr, h.paddr, h.memsz, h.align, ⟨h.pl.inn, h.pl.off, h.pl.size⟩⟩
theorem withB_ok {m : Md} (ok : m.Ok) (Bs : List (List UInt8)) : (m.withB Bs).Ok := ⟨ok.osabi, ok.abi, ok.typ, ok.mach, ok.flags, ok.entry, fun s hs => by
 obtain ⟨j, hj, rfl⟩ := List.getElem_of_mem hs
 simp only [Md.withB, List.getElem_zipWith]
 exact segB_ok (ok.segs _ (List.getElem_mem _)) _, ok.secs, ok.str⟩
theorem getD_B {Bs : List (List UInt8)} {i : Nat} (h : i < Bs.length) : Bs.getD i [] = Bs[i] := by rw [List.getD_eq_getElem?_getD, List.getElem?_eq_getElem h]; rfl
theorem withB_own {m : Md} {Bs : List (List UInt8)} (h : Fit m Bs) {i : Nat} (hi : i < m.segs.length) : ((m.withB Bs).segs.getD i sg0).pl.own = Bs.getD i [] := by
 have h1 : i < (m.withB Bs).segs.length := by rw [withB_len h]; exact hi
 have h2 : i < Bs.length := by rw [h.len]; exact hi
 rw [getD_at h1, withB_at h h1 hi h2, getD_B h2]
 rfl
theorem withB_setB {m : Md} {Bs : List (List UInt8)} (h : Fit m Bs) {i : Nat} (hi : i < m.segs.length) (b : List UInt8) : (m.withB Bs).setB i b = m.withB (Bs.set i b) := by
 have h1 : i < (m.withB Bs).segs.length := by rw [withB_len h]; exact hi
 have := withB_set h b h1
 unfold Md.setB
 rw [getD_at h1, ← this]
 rfl
theorem withB_word {m : Md} {Bs : List (List UInt8)} (h : Fit m Bs) (d : Nat) (r : Re) (hr : isRel m.mach r.ty = true) : (m.withB Bs).wordM r.off d = m.withB (m.relStep d Bs r) := by
 have ha := withB_among h r.off (wdN m.wide)
 rcases hx : m.among r.off (wdN m.wide) with _ | x
 ·rw [hx] at ha
  rw [wordM_none (show (m.withB Bs).among r.off (wdN (m.withB Bs).wide) = none from ha)]
  unfold Md.relStep
  rw [hr, hx]
  rfl
 ·obtain ⟨i, p⟩ := x
  rw [hx] at ha
  rw [wordM_some (show (m.withB Bs).among r.off (wdN (m.withB Bs).wide) = some (i, p) from ha)]
  obtain ⟨hi, -, -, -, hp⟩ := m.among_some hx
  have e1 : (m.withB Bs).wordV i p = wordAt Bs i p m.wide m.big := by
   unfold Md.wordV wordAt
   rw [withB_own h hi]
   rfl
  rw [withB_setB h hi, e1, withB_own h hi]
  unfold Md.relStep
  rw [hr, hx]
  rfl
theorem withB_ent {m : Md} {Bs : List (List UInt8)} (h : Fit m Bs) (d k : Nat) (e : Dy) (hi : m.dynP.inn.toNat < m.segs.length) (he : m.isAd e = true) : (m.withB Bs).setB m.dynP.inn.toNat (putIn ((m.withB Bs).segs.getD m.dynP.inn.toNat sg0).pl.own (m.dynP.off + wdN m.wide * (2 * k + 1)) (putB ((e.val + d) % 18446744073709551616) (wdN m.wide) m.big)) = m.withB (m.entStep d Bs k e) := by
 unfold Md.entStep
 rw [he, if_pos rfl, withB_setB h hi, withB_own h hi]
 rfl
theorem withB_isAd {m : Md} {Bs : List (List UInt8)} (h : Fit m Bs) (e : Dy) : m.isAd e = (isAdT e.tag && (m.withB Bs).segs.any fun s => s.inMem e.val) := by rw [withB_any h]; rfl
theorem entTo_succ (m : Md) (d k : Nat) (h : k < m.ents.length) : m.entTo d (k + 1) = m.entStep d (m.entTo d k) k m.ents[k] := by
 show m.entStep d (m.entTo d k) k (m.ents.getD k dy0) = _
 rw [List.getD_eq_getElem?_getD, List.getElem?_eq_getElem h]
 rfl
theorem entStep_no {m : Md} {d k : Nat} {Bs : List (List UInt8)} {e : Dy} (h : m.isAd e = false) : m.entStep d Bs k e = Bs := by unfold Md.entStep; rw [h]; rfl
theorem ents_len (m : Md) (hck : m.chk = 0) (hsm : m.Small) : m.ents.length ≤ 100000 := by
 unfold Md.ents
 split
 ·rename_i hd
  split
  ·unfold dyns
   rw [dynTo_len]
   have h1 := dyK_le m.dynB m.wide m.big
   have hl : m.dynI < m.segs.length := by unfold Md.hasDyn at hd; simpa using hd
   have hs : m.dynS = m.segs[m.dynI] := getD_at hl
   have h2 : m.dynB.length ≤ 100000 := Md.bytes_le hsm (by rw [hs]; exact hsm _ (List.getElem_mem hl))
   have h3 : dyK m.dynB m.wide m.big * 1 ≤ dyK m.dynB m.wide m.big * dySize m.wide := Nat.mul_le_mul_left _ (dySize_pos _)
   omega
  ·simp
 ·simp
theorem dynP_nat {m : Md} (hck : m.chk = 0) (hin : m.dynP.inn ≠ -1) : ∃ I : Nat, m.dynP.inn = (I : Int) := by
 unfold Md.dynP at hin ⊢
 cases hd : m.hasDyn with
 | false => rw [hd] at hin; exact absurd rfl hin
 | true =>
  rw [hd] at hin
  rw [if_pos rfl] at hin ⊢
  have hl : m.dynI < m.segs.length := by unfold Md.hasDyn at hd; simpa using hd
  have hs : m.dynS = m.segs[m.dynI] := getD_at hl
  have hc := (Md.chk_zero hck).1 m.dynS (by rw [hs]; exact List.getElem_mem hl)
  have hm : m.may m.dynS.pl = true := by
   unfold Md.segC at hc
   split at hc
   ·omega
   split at hc
   ·omega
   rename_i h2
   simpa using h2
  unfold Md.may at hm
  rw [if_neg hin] at hm
  simp only [Bool.and_eq_true] at hm
  obtain ⟨i, hi, -⟩ := isSegN_true hm.1.1
  exact ⟨i, hi⟩
set_option maxHeartbeats 8000000 in
theorem rbEnts_any (m : Md) (ok : m.Ok) (hck : m.chk = 0) (hsm : m.Small) (hin : m.dynP.inn ≠ -1) (B : Nat) (A1 : Option Addr) (n1 c1 : Nat) (A2 : Option Addr) (n2 c2 : Nat) (S1 S2 : Nat → Sl) (Sp : Value) (AL : Option Addr) (nL cL d : Nat) (w : World) (h : MW B w (m.withB (m.relEnd d)) A1 n1 c1 A2 n2 c2 S1 S2)
  (gl : ZO w B 77 2 AL nL cL (m.ents.map Dy.C)) (hd : d < 18446744073709551616) :
  Calls Try.prog 47 #[.agg (mdC m (.slice A1 n1 c1) (.slice A2 n2 c2)), .agg (plC m.dynP Sp), .slice AL nL cL, .int .u64 (d : Int)] w fun e w' => e = .returned (.tuple #[]) ∧ MW B w' (m.withB (m.entTo d m.ents.length)) A1 n1 c1 A2 n2 c2 S1 S2 ∧ Turn B w w' := by
 have HM := hid h
 have HZ := hid gl
 have hnl : nL = m.ents.length := by have := gl.2.1; simpa using this
 have hel := ents_len m hck hsm
 have HWd := hid (fun W => rbWidth_any m.wide m.big W)
 have HAd := hid (fun t W => rbAdr_any t W)
 have HIs : Hid (∀ k, k ≤ m.ents.length → ∀ a : Nat, a < 18446744073709551616 → ∀ W, MW B W (m.withB (m.entTo d k)) A1 n1 c1 A2 n2 c2 S1 S2 → Calls Try.prog 73 #[.agg (mdC m (.slice A1 n1 c1) (.slice A2 n2 c2)), .int .u64 (a : Int)] W fun e w' => e = .returned (.bool ((m.withB (m.entTo d k)).segs.any fun s => s.inMem a)) ∧ Grow W w') :=
  hid fun k hk a ha W hW => rbIsAm_any (m.withB (m.entTo d k)) (withB_ok ok _) A1 n1 c1 (.slice A2 n2 c2) a W hW.zr1 ha
 have HPt := hid (fun A n c l p v W h hp => rbPut_any A n c l p v m.wide m.big B W h hp)
 have HFi := hid (fun k hk => Fit.entTo (m := m) (d := d) hck hin k hk)
 have HRo := hid (fun k hk => ent_room (m := m) hck hin (k := k) hk)
 have HSu := hid (entTo_succ m d)
 have HNo := hid (fun k Bs e h => entStep_no (m := m) (d := d) (k := k) (Bs := Bs) (e := e) h)
 have HWe := hid (fun k Bs (h : Fit m Bs) e hi he => withB_ent (m := m) h d k e hi he)
 have HIa := hid (fun Bs (h : Fit m Bs) e => withB_isAd (m := m) h e)
 have HTu := hid (fun k W W' (h : MW B W (m.withB (m.entTo d k)) A1 n1 c1 A2 n2 c2 S1 S2) i g hi hS hBg hg b ho => h.turn (W' := W') (i := i) (g := g) hi hS hBg hg (b := b) ho)
 have HEo := hid (ents_ok m)
 have HSm := hid hsm
 unfold Md.Small at HSm
 have hwd := wdN_wid m.wide
 have hw8 := wdN_le m.wide
 have hwp := wdN_pos m.wide
 have HE0 : Hid (m.entTo d 0 = m.relEnd d) := hid rfl
 obtain ⟨I, hI⟩ := dynP_nat hck hin
 unfold plC
 rw [hI]
 have HII := hid hI
 clear hI
 obtain ⟨x2, x3, x4, x5, x6, x7, x10, hC⟩ : ∃ x2 x3 x4 x5 x6 x7 x10 : Value, mdC m (.slice A1 n1 c1) (.slice A2 n2 c2) = #[.bool m.wide, .bool m.big, x2, x3, x4, x5, x6, x7, .slice A1 n1 c1, .slice A2 n2 c2, x10] := ⟨_, _, _, _, _, _, _, rfl⟩
 rw [hC] at HIs ⊢
 have HSg : Hid (∀ k (hk : k ≤ m.ents.length) i (hi : i < m.segs.length), ∃ hi' : i < (m.withB (m.entTo d k)).segs.length, ((m.withB (m.entTo d k)).segs.getD i sg0).pl.own.length = m.segs[i].pl.own.length ∧ (m.withB (m.entTo d k)).segs.getD i sg0 = (m.withB (m.entTo d k)).segs[i]) := hid fun k hk i hi => by
  have hf := HFi.out k hk
  have h1 : i < (m.withB (m.entTo d k)).segs.length := by rw [withB_len hf]; exact hi
  have h2 : i < (m.entTo d k).length := by rw [hf.len]; exact hi
  refine ⟨h1, ?_, getD_at h1⟩
  rw [getD_at h1, withB_at hf h1 hi h2]
  exact hf.each i h2 hi
 have HNl := hid hnl
 clear hC ok h gl hck hin hsm
 rw [← hnl] at hel
 clear hnl
 obtain ⟨FitB, hFB⟩ : ∃ F : List (List UInt8) → Prop, F = Fit m := ⟨_, rfl⟩
 rw [← hFB] at HFi HWe HIa
 clear hFB
 generalize m.entTo d = ET at *
 generalize m.entStep d = ES at *
 generalize m.isAd = IA at *
 generalize m.ents = EL at *
 generalize m.relEnd d = RE at *
 generalize m.withB = WB at *
 generalize m.dynP = DP at *
 generalize m.segs = SG at *
 generalize m.wide = wi at *
 generalize m.big = bi at *
 go_enter Try.func47, Try.ntmps47
 go_wp2_with fail
 generalize hW : World.alloc _ _ = W0
 obtain ⟨b1, b2, b3, hg0⟩ := blk3 hW
 clear hW
 obtain ⟨gm, hgm⟩ : ∃ g, g = w.heap.size := ⟨_, rfl⟩
 rw [← hgm] at b1 b2 b3 ⊢
 have HB0 := hid b1
 have HP0 := hid b2
 have HF0 := hid b3
 have HM0 := hid (HM.out.grow hg0)
 have HZ0 := hid (HZ.out.keep hg0)
 have HT0 : Hid (Turn B w W0) := hid (Turn.of_grow hg0)
 clear b1 b2 b3 hg0 HM HZ hgm
 generalize gm + 1 + 1 = gf at *
 generalize gm + 1 = gp at *
 refine (HWd.out W0).mono ?_
 rintro e w1 ⟨rfl, hg⟩
 have HB1 := hid (HB0.out.grow hg)
 have HP1 := hid (HP0.out.grow hg)
 have HF1 := hid (HF0.out.grow hg)
 have HM1 := hid (HM0.out.grow hg)
 have HZ1 := hid (HZ0.out.keep hg)
 have HT1 : Hid (Turn B w w1) := hid (HT0.out.trans (Turn.of_grow hg))
 have z1 : IntKind.u64.wrap ((wdN wi : Nat) : Int) = ((wdN wi : Nat) : Int) := by rw [IntKind.wrap_u64]; omega
 clear hg HB0 HP0 HF0 HM0 HZ0 HT0 HWd
 rw [← HE0.out] at HM1
 go_wp2_with fail
 clear z1
 go_loopw [20] (fun i wr => ∃ k : Nat, k ≤ nL ∧ i = .int .i64 k ∧ MW B wr (WB (ET k)) A1 n1 c1 A2 n2 c2 S1 S2 ∧ ZO wr B 77 2 AL nL cL (EL.map Dy.C) ∧ Turn B w1 wr) (fun i _ => nL - (intOf i).toNat)
 case atStart => exact ⟨0, Nat.zero_le _, rfl, HM1.out, HZ1.out, Turn.refl⟩
 case round =>
  obtain ⟨k, hk, rfl, hm, hz, ht⟩ := hrel
  have HM2 := hid hm
  have HZ2 := hid hz
  have HT2 := hid ht
  have HB2 := hid (HB1.out.turn ht (by decide))
  have HP2 := hid (HP1.out.turn ht (by decide))
  have HF2 := hid (HF1.out.turn ht (by decide))
  clear hm hz ht HM1 HZ1 HB1 HP1 HF1
  by_cases hlt : k < nL
  ·have hkl : k < EL.length := by rw [← HNl.out]; exact hlt
   have hkM : k < (EL.map Dy.C).length := by rw [List.length_map]; exact hkl
   obtain ⟨b, off, rfl, hb, -⟩ := HZ2.out.zs.pos (by omega)
   obtain ⟨s, hs⟩ : ∃ s, EL[k] = s := ⟨_, rfl⟩
   have hso := HEo.out s (by rw [← hs]; exact List.getElem_mem hkl)
   have hval := hso.val
   have HCk : Hid (∀ hk : k < (EL.map Dy.C).length, (EL.map Dy.C)[k] = s.C) := hid (fun _ => by rw [List.getElem_map, hs])
   have HkM := hid hkM
   have hSu := HSu.out k hkl
   rw [hs] at hSu
   have HSk := hid hSu
   have HIk := hid (HIs.out k (by rw [← HNl.out]; omega) s.val hval)
   have hfit := HFi.out k (by rw [← HNl.out]; omega)
   have HIak := hid (HIa.out (ET k) hfit s)
   have HWek := hid (HWe.out k (ET k) hfit s)
   have HNok := hid (HNo.out k (ET k) s)
   have HTk := hid (HTu.out k)
   have HRk := hid (HRo.out k hkl)
   have HSgk := hid (HSg.out k (by rw [← HNl.out]; omega))
   have HAdk := hid (HAd.out s.tag)
   have HZs := hid HZ2.out.zs
   generalize (WB (ET k)).segs.any (fun s_1 => s_1.inMem s.val) = am at *
   generalize isAdT s.tag = at_ at *
   generalize IA s = ia at *
   generalize EL.map Dy.C = MM at *
   unfold Dy.C at HCk
   generalize s.tag = tg at *
   generalize s.val = vl at *
   clear hkM hSu hfit hs hso HIs HIa HWe HNo HTu HRo HSg HAd HSu HFi HEo
   have w0 : (0 : Int) ≤ (k : Int) := by omega
   have w1' : (k : Int) < (nL : Int) := by omega
   go_wp2_with (refine wpList_load_zs HZs.out HkM.out rfl 77 (.tmp 23) rfl rfl _ Try.underlying77 rfl (by kernel_rfl) _ (HCk.out _) ?_)
   generalize hW : World.alloc _ _ = w3
   obtain ⟨be, hg3⟩ := blk1 hW
   clear hW
   have HE3 := hid be
   have HM3 := hid (HM2.out.grow hg3)
   have HZ3 := hid (HZ2.out.keep hg3)
   have HT3 : Hid (Turn B w1 w3) := hid (HT2.out.trans (Turn.of_grow hg3))
   have HB3 := hid (HB2.out.grow hg3)
   have HP3 := hid (HP2.out.grow hg3)
   have HF3 := hid (HF2.out.grow hg3)
   clear be hg3 HM2 HZ2 HT2 HB2 HP2 HF2 HZs HCk HkM
   generalize wr.heap.size = ge at *
   refine (HAdk.out w3).mono ?_
   rintro e w3' ⟨rfl, rfl⟩
   obtain ⟨u0, u1⟩ := HE3.out.c2
   obtain ⟨v0, v1, v2, v3, v4, v5, v6, v7, v8, v9, v10⟩ := HB3.out.c11
   clear HAdk
   cases at_ with
   | false =>
    have hia : ia = false := by rw [HIak.out]; rfl
    have hE := HNok.out hia
    rw [← HSk.out] at hE
    rw [← hE] at HM3
    clear v0 v1 v2 v3 v4 v5 v6 v7 v8 v9 v10 u0 u1 hE hia
    go_wp2
    go_roundw
    case rel => exact ⟨k + 1, by omega, by go_num, HM3.out, HZ3.out, HT3.out⟩
    case measure => simp [intOf]; omega
   | true =>
    go_wp2_with fail
    clear v0 v1 v2 v3 v4 v5 v6 v7 v8 v9 v10 u0 u1
    refine (HIk.out w3 HM3.out).mono ?_
    rintro e w4 ⟨rfl, hg4⟩
    have HE4 := hid (HE3.out.grow hg4)
    have HM4 := hid (HM3.out.grow hg4)
    have HZ4 := hid (HZ3.out.keep hg4)
    have HT4 : Hid (Turn B w1 w4) := hid (HT3.out.trans (Turn.of_grow hg4))
    have HB4 := hid (HB3.out.grow hg4)
    have HP4 := hid (HP3.out.grow hg4)
    have HF4 := hid (HF3.out.grow hg4)
    clear hg4 HE3 HM3 HZ3 HT3 HB3 HP3 HF3 HIk
    cases am with
    | false =>
     have hia : ia = false := by rw [HIak.out]; rfl
     have hE := HNok.out hia
     rw [← HSk.out] at hE
     rw [← hE] at HM4
     clear hE hia
     go_wp2
     go_roundw
     case rel => exact ⟨k + 1, by omega, by go_num, HM4.out, HZ4.out, HT4.out⟩
     case measure => simp [intOf]; omega
    | true =>
     have hia : ia = true := by rw [HIak.out]; rfl
     obtain ⟨hi, hinn, -, hroom⟩ := HRk.out
     obtain ⟨hi', hlen', hget⟩ := HSgk.out _ hi
     have hWe := HWek.out hi hia
     generalize hI : DP.inn.toNat = I2 at hi hinn hroom hi' hlen' hget hWe
     have hI3 : I = I2 := by
      have h1 := HII.out
      omega
     subst hI3
     rw [← HSk.out] at hWe
     have hin1 : I < n1 := by rw [HM4.out.s1.len]; exact hi'
     have hir : I < (rowsOf sgK (WB (ET k)).segs S1).length := by rw [rowsOf_len]; exact hi'
     obtain ⟨g3, cur, hA1, hb3, hB3, hle3, hcell⟩ := HM4.out.s1.row.openAt hir
     subst hA1
     rw [rowsOf_at hir hi'] at hcell
     obtain ⟨⟨Ai, ni, ci⟩, hSi⟩ : ∃ s, S1 I = s := ⟨_, rfl⟩
     have hob := HM4.out.s1.own I hi' hin1
     have HQ9 : Hid (∀ W, Turn B w4.drew W → W.cell? ⟨g3, I * 10 + 9, none⟩ = some (.slice Ai ni ci)) := hid fun W hW => ((hb3.drew.turn hW (by decide)).at _).trans ((hcell 9 (by decide)).trans (by rw [hSi]; rfl))
     rw [hSi] at hob
     have hob' : OB w4 B 5 Ai ni ci ((WB (ET k)).segs.getD I sg0).pl.own := by rw [hget]; exact hob
     have hlen := hob'.len
     have hsm := HSm.out SG[I] (List.getElem_mem hi)
     rw [← hlen'] at hroom hsm
     generalize ((WB (ET k)).segs.getD I sg0).pl.own = so at *
     have HSi2 : Hid ((S1 I).1 = Ai ∧ (S1 I).2.1 = ni ∧ (S1 I).2.2 = ci) := hid (by rw [hSi]; exact ⟨rfl, rfl, rfl⟩)
     have HOB4 := hid hob'
     have HWe2 := hid hWe
     have HIi := hid hi'
     have HGg := hid hB3
     clear hinn
     obtain ⟨q, hq⟩ : ∃ q, q = DP.off + wdN wi * (2 * k + 1) := ⟨_, rfl⟩
     rw [← hq] at hroom HWe2
     have hqn : q + wdN wi ≤ ni := by omega
     have hmul : wdN wi * (2 * k + 1) ≤ q := by omega
     have hdo : DP.off ≤ q := by omega
     have z1 : IntKind.i64.wrap (2 * (k : Int)) = 2 * (k : Int) := by rw [IntKind.wrap_i64]; omega
     have z2 : IntKind.i64.wrap (2 * (k : Int) + 1) = 2 * (k : Int) + 1 := by rw [IntKind.wrap_i64]; omega
     have z3 : IntKind.u64.wrap (2 * (k : Int) + 1) = 2 * (k : Int) + 1 := by rw [IntKind.wrap_u64]; omega
     obtain ⟨mm, hmm⟩ : ∃ mm, mm = wdN wi * (2 * k + 1) := ⟨_, rfl⟩
     have hmi : ((wdN wi : Nat) : Int) * (2 * (k : Int) + 1) = (mm : Int) := by rw [hmm]; push_cast; rfl
     have z4 : IntKind.u64.wrap (((wdN wi : Nat) : Int) * (2 * (k : Int) + 1)) = (mm : Int) := by rw [IntKind.wrap_u64, hmi]; omega
     have z5 : IntKind.u64.wrap ((DP.off : Int) + (mm : Int)) = (q : Int) := by rw [IntKind.wrap_u64]; omega
     have z6 : IntKind.u64.wrap ((vl : Int) + (d : Int)) = (((vl + d) % 18446744073709551616 : Nat) : Int) := by rw [IntKind.wrap_u64]; omega
     have i0 : (0 : Int) ≤ (I : Int) := by omega
     have i1 : (I : Int) < (n1 : Int) := by omega
     have HQn := hid hqn
     clear hob hob' hlen hsm hroom hWe hcell hb3 hB3 hle3 hir hin1 hSi hget hlen' hi' hi hia hmi hmm hmul hdo hqn hq HRk HSgk HNok HIak hI
     go_wp2_with fail
     refine wp_region_leap (leap_turn B) [(0, true), (1, true), (2, true), (3, true), (4, true), (5, true), (6, true), (7, true), (8, true), (9, true), (10, true), (11, true), (12, true), (13, true), (14, true), (15, true), (16, true), (17, true), (18, true), (19, true), (20, true), (21, true), (22, false)] (by kernel_rfl) (by kernel_rfl) (by kernel_rfl) ?_
     have hgd := Grow.of_drew w4
     have HE5 := hid (HE4.out.grow hgd)
     have HM5 := hid (HM4.out.grow hgd)
     have HZ5 := hid (HZ4.out.keep hgd)
     have HT5 : Hid (Turn B w1 w4.drew) := hid (HT4.out.trans (Turn.of_grow hgd))
     have HB5 := hid (HB4.out.grow hgd)
     have HP5 := hid (HP4.out.grow hgd)
     have HF5 := hid (HF4.out.grow hgd)
     have HOB5 := hid (HOB4.out.keep hgd)
     clear hgd HE4 HM4 HZ4 HT4 HB4 HP4 HF4 HOB4
     generalize w4.drew = v5 at *
     have q0 : ∀ W, Turn B v5 W → _ := fun W hW => (HB5.out.turn hW (by decide)).c11
     have q1 : ∀ W, Turn B v5 W → _ := fun W hW => (HP5.out.turn hW (by decide)).c4
     have q2 : ∀ W, Turn B v5 W → _ := fun W hW => (HE5.out.turn hW (by decide)).c2
     have q3 : ∀ W, Turn B v5 W → _ := fun W hW => (HF5.out.turn hW (by decide)).c2
     repeat (refine chain_take rfl (by rfl) ?_ (fun W hG => ?_) ?_; rotate_left; (obtain ⟨v0, v1, v2, v3, v4, v5, v6, v7, v8, v9, v10⟩ := q0 W hG; obtain ⟨u0, u1, u2, u3⟩ := q1 W hG; obtain ⟨t0, t1⟩ := q2 W hG; obtain ⟨f0, f1⟩ := q3 W hG; have q9 := HQ9.out W hG; go_simp; rfl); simp only [Act.put, List.setIfInBounds_toArray, List.set_cons_zero, List.set_cons_succ])
     clear q0 q1 q2 q3 z1 z2 z3 z4 z5 z6
     refine chain_only rfl (by rfl) (fun K hK => ?_)
     go_simp
     refine (HPt.out Ai ni ci so q ((vl + d) % 18446744073709551616) v5 HOB5.out HQn.out).mono ?_
     rintro e v6 ⟨rfl, g, hAg, hBg, hgr, hob⟩
     have hob2 : OB v6 B 5 (S1 I).1 (S1 I).2.1 (S1 I).2.2 (putIn so q (putB ((vl + d) % 18446744073709551616) (wdN wi) bi)) := by rw [HSi2.out.1, HSi2.out.2.1, HSi2.out.2.2]; exact hob
     have hfin := HTk.out v5 v6 HM5.out I g HIi.out (by rw [HSi2.out.1]; exact hAg) hBg hgr _ hob2
     rw [HWe2.out] at hfin
     refine hK _ _ hfin.2 ?_
     clear hK K
     have HM6 := hid hfin.1
     have HZ6 := hid (HZ5.out.turn hfin.2 (by decide))
     have HT6 : Hid (Turn B w1 v6) := hid (HT5.out.trans hfin.2)
     clear hfin hob2 hAg hBg hgr hob HOB5 HE5 HM5 HZ5 HT5 HB5 HP5 HF5 HQ9 HPt
     refine chain_done ?_
     go_wp2
     go_roundw
     case rel => exact ⟨k + 1, by omega, by go_num, HM6.out, HZ6.out, HT6.out⟩
     case measure => simp [intOf]; omega
  ·have e : k = nL := by omega
   subst e
   rw [HNl.out] at HM2
   go_wp2
   go_end0
   exact ⟨rfl, HM2.out, HT1.out.trans HT2.out⟩
end Go.Proofs.Ytfpihkbpelbcbaa
