/-
  Several texts in one: The contracts of the document's own small functions of layer 19; The contract of the document's own Wraps; The contracts of the document's own Last, Below (layer 2) and Word.
-/
import Derived.Test.YtfpihkbpelbcbaaRtG13
import Derived.Test.YtfpihkbpelbcbaaRtG17
import Derived.Test.YtfpihkbpelbcbaaRtG9
import Derived.Test.YtfpihkbpelbcbaaRtG1
import Derived.Test.YtfpihkbpelbcbaaRtG2
import Derived.OwnWalk
namespace Go.Proofs.Ytfpihkbpelbcbaa
open Go.Lib (hid)
open Go.RowKit
set_option maxRecDepth 100000
set_option linter.unusedVariables false
theorem rTop_any (m : Md) (S1 S2 : Value) (w : World) : Calls Try.prog 74 #[.agg (mdC m S1 S2)] w fun e w' => e = .returned (.int .u64 (lastA m.wide : Nat)) ∧ Grow w w' := by
 unfold mdC
 cases m.wide
 all_goals
  go_enter Try.func74, Try.ntmps74
  go_wp2
  go_ret
  exact ⟨rfl, Grow.of_alloc _ _⟩
set_option maxHeartbeats 1000000 in
theorem rOver_any (m : Md) (A1 A2 : Option Addr) (n1 c1 n2 c2 a b c : Nat) (w : World) (ha : a < 18446744073709551616) (hb : b < 18446744073709551616) (hc : c < 18446744073709551616) :
  Calls Try.prog 49 #[.agg (mdC m (.slice A1 n1 c1) (.slice A2 n2 c2)), .int .u64 (a : Int), .int .u64 (b : Int), .int .u64 (c : Int)] w fun e w' => e = .returned (.bool (!decide (a + b + c ≤ lastA m.wide))) ∧ Grow w w' := by
 have HT := hid (fun W => rTop_any m (.slice A1 n1 c1) (.slice A2 n2 c2) W)
 have hL := lastA_le m.wide
 obtain ⟨x0, x1, x2, x3, x4, x5, x6, x7, x10, hC⟩ : ∃ x0 x1 x2 x3 x4 x5 x6 x7 x10 : Value, mdC m (.slice A1 n1 c1) (.slice A2 n2 c2) = #[x0, x1, x2, x3, x4, x5, x6, x7, .slice A1 n1 c1, .slice A2 n2 c2, x10] := ⟨_, _, _, _, _, _, _, _, _, rfl⟩
 rw [hC] at HT ⊢
 clear hC
 generalize lastA m.wide = L at *
 by_cases h1 : a ≤ L
 ·have e1 : decide ((L : Int) < (a : Int)) = false := decide_eq_false (by omega)
  have e1' : decide (L < a) = false := decide_eq_false (by omega)
  have z1 : IntKind.u64.wrap ((L : Int) - (a : Int)) = ((L - a : Nat) : Int) := by rw [IntKind.wrap_u64]; omega
  by_cases h2 : a + b ≤ L
  ·have e2 : decide (((L - a : Nat) : Int) < (b : Int)) = false := decide_eq_false (by omega)
   have e2' : decide (L - a < b) = false := decide_eq_false (by omega)
   have z2 : IntKind.u64.wrap (((L - a : Nat) : Int) - (b : Int)) = ((L - a - b : Nat) : Int) := by rw [IntKind.wrap_u64]; omega
   have E := hid (show (!decide (a + b + c ≤ L)) = decide (((L - a - b : Nat) : Int) < (c : Int)) by rw [Bool.eq_iff_iff]; simp; omega)
   generalize (!decide (a + b + c ≤ L)) = R at *
   generalize L - a - b = L2 at *
   generalize L - a = L1 at *
   clear h1 h2
   go_enter Try.func49, Try.ntmps49
   go_wp2_with fail
   refine (HT.out _).mono ?_
   rintro e w' ⟨rfl, hg⟩
   have HG := hid ((Grow.of_alloc _ _).trans hg)
   clear hg HT
   go_wp2
   go_ret
   exact ⟨ret_bool (E.out.trans (by simp)).symm, HG.out⟩
  ·have e2 : decide (((L - a : Nat) : Int) < (b : Int)) = true := decide_eq_true (by omega)
   have e2' : decide (L - a < b) = true := decide_eq_true (by omega)
   have E := hid (show (!decide (a + b + c ≤ L)) = true by simp; omega)
   generalize (!decide (a + b + c ≤ L)) = R at *
   generalize L - a = L1 at *
   clear h1 h2
   go_enter Try.func49, Try.ntmps49
   go_wp2_with fail
   refine (HT.out _).mono ?_
   rintro e w' ⟨rfl, hg⟩
   have HG := hid ((Grow.of_alloc _ _).trans hg)
   clear hg HT
   go_wp2
   go_ret
   exact ⟨ret_bool E.out.symm, HG.out⟩
 ·have e1 : decide ((L : Int) < (a : Int)) = true := decide_eq_true (by omega)
  have e1' : decide (L < a) = true := decide_eq_true (by omega)
  have E := hid (show (!decide (a + b + c ≤ L)) = true by simp; omega)
  generalize (!decide (a + b + c ≤ L)) = R at *
  clear h1
  go_enter Try.func49, Try.ntmps49
  go_wp2_with fail
  refine (HT.out _).mono ?_
  rintro e w' ⟨rfl, hg⟩
  have HG := hid ((Grow.of_alloc _ _).trans hg)
  clear hg HT
  go_wp2
  go_ret
  exact ⟨ret_bool E.out.symm, HG.out⟩
set_option maxHeartbeats 1000000 in
theorem rRel_any (r : Re) (m : Md) (A1 A2 : Option Addr) (n1 c1 n2 c2 : Nat) (w : World) : Calls Try.prog 25 #[.agg (mdC m (.slice A1 n1 c1) (.slice A2 n2 c2)), .agg r.C] w fun e w' => e = .returned (.bool (isRel m.mach r.ty)) ∧ Grow w w' := by
 obtain ⟨x0, x1, x2, x3, x4, x6, x7, x10, hC⟩ : ∃ x0 x1 x2 x3 x4 x6 x7 x10 : Value, mdC m (.slice A1 n1 c1) (.slice A2 n2 c2) = #[x0, x1, x2, x3, x4, .int .u16 (m.mach : Nat), x6, x7, .slice A1 n1 c1, .slice A2 n2 c2, x10] := ⟨_, _, _, _, _, _, _, _, rfl⟩
 rw [hC]
 clear hC
 generalize m.mach = mach
 have E := hid (show isRel mach r.ty = if mach = 183 then decide (r.ty = 1027) else (decide (mach = 3) || decide (mach = 62)) && decide (r.ty = 8) from rfl)
 unfold Re.C
 generalize isRel mach r.ty = R at E ⊢
 generalize r.ty = t at E ⊢
 by_cases h183 : mach = 183
 ·subst h183
  have E1 := hid (show R = decide (t = 1027) by rw [E.out]; simp)
  clear E
  go_enter Try.func25, Try.ntmps25
  go_wp2
  go_ret
  exact ⟨ret_bool (by rw [E1.out, Bool.eq_iff_iff]; simp; omega), (Grow.of_alloc _ _).trans (Grow.of_alloc _ _)⟩
 ·have e183 : ((mach : Int) == 183) = false := by simp; omega
  by_cases h3 : mach = 3
  ·subst h3
   have E1 := hid (show R = decide (t = 8) by rw [E.out]; simp)
   clear E h183
   go_enter Try.func25, Try.ntmps25
   go_wp2
   go_ret
   exact ⟨ret_bool (by rw [E1.out, Bool.eq_iff_iff]; simp; omega), (Grow.of_alloc _ _).trans (Grow.of_alloc _ _)⟩
  ·have e3 : ((mach : Int) == 3) = false := by simp; omega
   by_cases h62 : mach = 62
   ·subst h62
    have E1 := hid (show R = decide (t = 8) by rw [E.out]; simp)
    clear E h183 h3
    go_enter Try.func25, Try.ntmps25
    go_wp2
    go_ret
    exact ⟨ret_bool (by rw [E1.out, Bool.eq_iff_iff]; simp; omega), (Grow.of_alloc _ _).trans (Grow.of_alloc _ _)⟩
   ·have e62 : ((mach : Int) == 62) = false := by simp; omega
    have E1 := hid (show R = false by rw [E.out, if_neg h183]; simp [h3, h62])
    clear E h183 h3 h62
    go_enter Try.func25, Try.ntmps25
    go_wp2
    go_ret
    exact ⟨ret_bool E1.out.symm, (Grow.of_alloc _ _).trans (Grow.of_alloc _ _)⟩
def dynN (m : Md) : Int := if m.hasDyn then (m.dynI : Int) else -1
theorem dynN_hit (m : Md) (k : Nat) (hk : k < m.segs.length) (hf : k ≤ m.dynI) (h : decide (m.segs[k].typ = 2) = true) : dynN m = (k : Int) := by
 have e : m.dynI = k := (fi_step hf).1 hk h
 unfold dynN Md.hasDyn
 rw [e, decide_eq_true hk]
 rfl
theorem dynN_end (m : Md) (k : Nat) (hk : m.segs.length ≤ k) (hf : k ≤ m.dynI) : dynN m = -1 := by
 have e : m.dynI = m.segs.length := (fi_step hf).2.2 hk
 unfold dynN Md.hasDyn
 rw [e, decide_eq_false (Nat.lt_irrefl _)]
 rfl
set_option maxHeartbeats 1000000 in
theorem rDynN_any (m : Md) (A1 A2 : Option Addr) (n1 c1 n2 c2 : Nat) (w : World) (g1 : ZR sgK w w.heap.size A1 n1 c1 m.segs) :
  Calls Try.prog 28 #[.agg (mdC m (.slice A1 n1 c1) (.slice A2 n2 c2))] w fun e w' => e = .returned (.int .i64 (dynN m)) ∧ Grow w w' := by
 have HS := hid g1
 have HL := hid g1.len
 have HH := hid (dynN_hit m)
 have HO := hid (dynI_on m)
 have HE := hid (dynN_end m)
 have hcc := g1.cap
 have hcm := g1.max
 unfold maxLen at hcm
 obtain ⟨x0, x1, x2, x3, x4, x5, x6, x7, x10, hC⟩ : ∃ x0 x1 x2 x3 x4 x5 x6 x7 x10 : Value, mdC m (.slice A1 n1 c1) (.slice A2 n2 c2) = #[x0, x1, x2, x3, x4, x5, x6, x7, .slice A1 n1 c1, .slice A2 n2 c2, x10] := ⟨_, _, _, _, _, _, _, _, _, rfl⟩
 rw [hC]
 clear hC g1
 generalize dynN m = DN at *
 generalize m.dynI = F at *
 generalize m.segs = l at *
 go_enter Try.func28, Try.ntmps28
 go_wp2_with fail
 generalize hW : World.alloc _ _ = W0
 obtain ⟨b1, hg0⟩ := blk1 hW
 clear hW
 have HB0 := hid b1
 have HG0 := hid hg0
 clear b1 hg0
 generalize w.heap.size = gm at HB0 ⊢
 go_loopw [3] (fun i wr => ∃ k : Nat, k ≤ n1 ∧ i = .int .i64 k ∧ k ≤ F ∧ W0 = wr) (fun i _ => n1 - (intOf i).toNat)
 case atStart => exact ⟨0, Nat.zero_le _, rfl, Nat.zero_le _, rfl⟩
 case round =>
  obtain ⟨k, hk, rfl, hkF, rfl⟩ := hrel
  have HKF := hid hkF
  clear hkF
  have v8 : W0.cell? ⟨gm, 8, none⟩ = some (.slice A1 n1 c1) := HB0.out.at 8
  by_cases hlt : k < n1
  ·obtain ⟨b, off, rfl, hb⟩ := HS.out.pos (by omega)
   have hkl : k < l.length := by rw [← HL.out]; exact hlt
   obtain ⟨A3, nk, ck, -, hcell, -⟩ := HS.out.at hkl
   have t0 : W0.cell? ⟨b, off + k * 10, none⟩ = some (.int .u32 (l[k].typ : Nat)) := (Below.cell HG0.out hb).trans (hcell 0 _ rfl)
   have HHk := hid (HH.out k hkl HKF.out)
   have HOk' := hid (HO.out k hkl HKF.out)
   clear hcell hb HH HO HE
   generalize l[k].typ = ty at *
   have w0 : (0 : Int) ≤ (k : Int) := by omega
   have w1 : (k : Int) < (n1 : Int) := by omega
   by_cases h2 : ty = 2
   ·have hR := HHk.out (decide_eq_true h2)
    have HR := hid hR
    subst h2
    clear hR HHk HOk'
    go_wp2
    go_ret
    exact ⟨by rw [HR.out]; rfl, HG0.out⟩
   ·have hK1 := hid (HOk'.out (decide_eq_false h2))
    have e0 : ((ty : Int) == 2) = false := by simp; omega
    have z1 : IntKind.i64.wrap ((k : Int) + 1) = (k : Int) + 1 := by rw [IntKind.wrap_i64]; omega
    clear HHk HOk' h2
    go_wp2
    go_roundw
    case rel => exact ⟨k + 1, by omega, by go_num, hK1.out, trivial⟩
    case measure => simp [intOf]; omega
  ·have hR := HE.out k (by rw [← HL.out]; omega) HKF.out
   have HR := hid hR
   clear hR
   go_wp2
   go_ret
   exact ⟨by rw [HR.out]; rfl, HG0.out⟩
set_option maxRecDepth 100000
set_option linter.unusedVariables false
set_option maxHeartbeats 8000000 in
theorem rWraps_any (m : Md) (ok : m.Ok) (A1 : Option Addr) (n1 c1 : Nat) (A2 : Option Addr) (n2 c2 : Nat) (d : Nat) (w : World) (g1 : ZR sgK w w.heap.size A1 n1 c1 m.segs) (g2 : ZR seK w w.heap.size A2 n2 c2 m.secs) (hd : d < 18446744073709551616) :
  Calls Try.prog 20 #[.agg (mdC m (.slice A1 n1 c1) (.slice A2 n2 c2)), .int .u64 (d : Int)] w fun e w' => e = .returned (.bool (m.wrBad d)) ∧ Grow w w' := by
 have HS := hid g1
 have HT := hid g2
 have HL := hid g1.len
 have HM := hid g2.len
 have HOv := hid (fun a b c W ha hb hc => rOver_any m A1 A2 n1 c1 n2 c2 a b c W ha hb hc)
 have he := ok.entry
 have HOk1 := hid (fun k (hk : k < m.segs.length) => ok.segs _ (List.getElem_mem hk))
 have HOk2 := hid (fun k (hk : k < m.secs.length) => ok.secs _ (List.getElem_mem hk))
 have E : Hid (m.wrBad d = ((!decide (m.entry = 0) && !decide (m.entry + d + 0 ≤ lastA m.wide)) || (m.segs.any (fun s => s.over m.wide d) || m.secs.any (fun s => s.over m.wide d)))) := hid rfl
 obtain ⟨ov1, hov1⟩ : ∃ f : Sg → Bool, f = fun s => s.over m.wide d := ⟨_, rfl⟩
 obtain ⟨ov2, hov2⟩ : ∃ f : Se → Bool, f = fun s => s.over m.wide d := ⟨_, rfl⟩
 rw [← hov1, ← hov2] at E
 have HO1 : Hid (∀ s : Sg, s.memsz < 18446744073709551616 → ov1 s = (!decide (s.vaddr + d + 0 ≤ lastA m.wide) || (decide (0 < s.memsz) && !decide (s.vaddr + (s.memsz - 1) + d ≤ lastA m.wide)))) := hid fun s _ => by
  rw [hov1, show s.vaddr + (s.memsz - 1) + d = s.vaddr + d + (s.memsz - 1) by omega]
  rfl
 have HO2 : Hid (∀ s : Se, ov2 s = (decide (s.flags / 2 % 2 = 1) && !decide (s.addr + d + 0 ≤ lastA m.wide))) := hid fun s => by rw [hov2]; rfl
 have hcc := g1.cap
 have hcm := g1.max
 have hcc2 := g2.cap
 have hcm2 := g2.max
 unfold maxLen at hcm hcm2
 obtain ⟨x0, x1, x2, x3, x4, x5, x6, x10, hC⟩ : ∃ x0 x1 x2 x3 x4 x5 x6 x10 : Value, mdC m (.slice A1 n1 c1) (.slice A2 n2 c2) = #[x0, x1, x2, x3, x4, x5, x6, .int .u64 (m.entry : Nat), .slice A1 n1 c1, .slice A2 n2 c2, x10] := ⟨_, _, _, _, _, _, _, _, rfl⟩
 rw [hC] at HOv ⊢
 clear hC g1 g2 ok hov1 hov2
 generalize m.wrBad d = R at *
 generalize m.segs = l at *
 generalize m.secs = l2 at *
 generalize m.entry = en at *
 generalize lastA m.wide = L at *
 go_enter Try.func20, Try.ntmps20
 go_wp2_with fail
 generalize hW : World.alloc _ _ = W0
 obtain ⟨b1, hg0⟩ := blk1 hW
 clear hW
 obtain ⟨gm, hgm⟩ : ∃ g, g = w.heap.size := ⟨_, rfl⟩
 rw [← hgm] at b1 ⊢
 have HB0 := hid b1
 have HG0 := hid hg0
 clear b1 hg0 hgm
 go_loopw [5] (fun i wr => ∃ k : Nat, k ≤ n1 ∧ i = .int .i64 k ∧ Hid (∀ s ∈ l.take k, ov1 s = false) ∧ Grow W0 wr) (fun i _ => n1 - (intOf i).toNat)
 case atStart => exact ⟨0, Nat.zero_le _, rfl, hid fun s h => absurd h (by simp), Grow.refl _⟩
 case round =>
  obtain ⟨k, hk, rfl, hno, hg⟩ := hrel
  have HNo := hid hno.out
  have HG := hid hg
  have v8 : wr.cell? ⟨gm, 8, none⟩ = some (.slice A1 n1 c1) := (HB0.out.grow hg).at 8
  clear hno hg
  by_cases hlt : k < n1
  ·obtain ⟨b, off, rfl, hb⟩ := HS.out.pos (by omega)
   have hkl : k < l.length := by rw [← HL.out]; exact hlt
   obtain ⟨RR, hR, hrow⟩ := (HS.out.belowAt (HG0.out.trans HG.out) (Nat.le_refl _)).row
   obtain ⟨hkR, A3, nk, ck, e1, hby⟩ := hrow k hkl
   obtain ⟨BB, hBB⟩ : ∃ BB, ZS wr BB 10 (some ⟨b, off, none⟩) n1 c1 RR := ⟨_, hR⟩
   have HRr := hid hBB
   have HkR := hid hkR
   have HE1 : Hid (∀ hk : k < RR.length, RR[k] = sgC l[k] (.slice A3 nk ck)) := hid fun _ => e1
   have hv := (HOk1.out k hkl).vaddr
   have hmz := (HOk1.out k hkl).memsz
   have HIk := hid (HO1.out l[k] hmz)
   have HMem := hid (List.getElem_mem hkl)
   have HT' := hid (takeS l k hkl)
   clear hR hkR e1 hrow hb hby hBB
   unfold sgC at HE1
   generalize l[k] = s at *
   have HYes : Hid (ov1 s = true → R = true) := hid fun h => by
    rw [E.out, List.any_eq_true.2 ⟨s, HMem.out, h⟩]
    simp
   have HNok : Hid (ov1 s = false → Hid (∀ x ∈ l.take (k + 1), ov1 x = false)) := hid fun h => hid fun a ha => by
    rw [HT'.out] at ha
    rcases List.mem_append.1 ha with h1 | h1
    ·exact HNo.out a h1
    ·obtain rfl : a = s := by simpa using h1
     exact h
   generalize ov1 s = is_ at *
   generalize s.typ = y0 at *
   generalize s.flags = y1 at *
   generalize s.vaddr = y2 at *
   generalize s.paddr = y3 at *
   generalize s.memsz = y4 at *
   generalize s.align = y5 at *
   generalize s.pl.inn = y6 at *
   generalize s.pl.off = y7 at *
   generalize s.pl.size = y8 at *
   clear HMem HT' HNo HOk1 HOk2 hkl HS HL HT HM HO1 HO2 E
   have w0 : (0 : Int) ≤ (k : Int) := by omega
   have w1 : (k : Int) < (n1 : Int) := by omega
   have zk : IntKind.i64.wrap ((k : Int) + 1) = (k : Int) + 1 := by rw [IntKind.wrap_i64]; omega
   have HB1 := hid (HB0.out.grow HG.out)
   have f0 : ∀ o, (wr.alloc o).cell? ⟨gm, 0, none⟩ = some (x0) := fun o => (HB1.out.alloc o).at 0
   have f1 : ∀ o, (wr.alloc o).cell? ⟨gm, 1, none⟩ = some (x1) := fun o => (HB1.out.alloc o).at 1
   have f2 : ∀ o, (wr.alloc o).cell? ⟨gm, 2, none⟩ = some (x2) := fun o => (HB1.out.alloc o).at 2
   have f3 : ∀ o, (wr.alloc o).cell? ⟨gm, 3, none⟩ = some (x3) := fun o => (HB1.out.alloc o).at 3
   have f4 : ∀ o, (wr.alloc o).cell? ⟨gm, 4, none⟩ = some (x4) := fun o => (HB1.out.alloc o).at 4
   have f5 : ∀ o, (wr.alloc o).cell? ⟨gm, 5, none⟩ = some (x5) := fun o => (HB1.out.alloc o).at 5
   have f6 : ∀ o, (wr.alloc o).cell? ⟨gm, 6, none⟩ = some (x6) := fun o => (HB1.out.alloc o).at 6
   have f7 : ∀ o, (wr.alloc o).cell? ⟨gm, 7, none⟩ = some (.int .u64 (en : Int)) := fun o => (HB1.out.alloc o).at 7
   have f8 : ∀ o, (wr.alloc o).cell? ⟨gm, 8, none⟩ = some (.slice (some ⟨b, off, none⟩) n1 c1) := fun o => (HB1.out.alloc o).at 8
   have f9 : ∀ o, (wr.alloc o).cell? ⟨gm, 9, none⟩ = some (.slice A2 n2 c2) := fun o => (HB1.out.alloc o).at 9
   have f10 : ∀ o, (wr.alloc o).cell? ⟨gm, 10, none⟩ = some (x10) := fun o => (HB1.out.alloc o).at 10
   go_wp2_with (first | (refine wpList_load_zs HRr.out HkR.out rfl 48 (.tmp 22) rfl rfl _ Try.underlying48 rfl (by kernel_rfl) _ (HE1.out _) ?_) | fail)
   generalize hW : World.alloc _ _ = W5
   obtain ⟨b5, hg5⟩ := blk1 hW
   clear hW v8 f0 f1 f2 f3 f4 f5 f6 f7 f8 f9 f10
   have HS5 := hid b5
   have HB5 := hid (HB1.out.grow hg5)
   have HG5 : Hid (Grow W0 W5) := hid (HG.out.trans hg5)
   clear b5 hg5 HRr HkR HE1 HG HB1 HB0
   generalize wr.heap.size = gs at *
   refine (HOv.out _ _ 0 _ hv hd (by decide)).mono ?_
   rintro e w6 ⟨rfl, hg6⟩
   have HS6 := hid (HS5.out.grow hg6)
   have HB6 := hid (HB5.out.grow hg6)
   have HG6 : Hid (Grow W0 w6) := hid (HG5.out.trans hg6)
   clear hg6 HS5 HB5 HG5
   generalize (!decide (y2 + d + 0 ≤ L)) = o1 at *
   obtain ⟨v0, v1, v2, v3, v4, v5, v6, v7, v8, v9, v10⟩ := HB6.out.c11
   obtain ⟨u0, u1, u2, u3, u4, u5, u6, u7, u8, u9⟩ := HS6.out.c10
   by_cases hz : 0 < y4
   ·have e1 : decide ((0 : Int) < (y4 : Int)) = true := decide_eq_true (by omega)
    have e1' : decide (0 < y4) = true := decide_eq_true hz
    have z4 : IntKind.u64.wrap ((y4 : Int) - 1) = ((y4 - 1 : Nat) : Int) := by rw [IntKind.wrap_u64]; omega
    go_wp2_with fail
    refine (HOv.out _ _ _ _ hv (show y4 - 1 < 18446744073709551616 by omega) hd).mono ?_
    rintro e w7 ⟨rfl, hg7⟩
    have HG7 : Hid (Grow W0 w7) := hid (HG6.out.trans hg7)
    have HGG : Hid (Grow w w7) := hid (HG0.out.trans HG7.out)
    have HI2 := hid (show is_ = (o1 || !decide (y2 + (y4 - 1) + d ≤ L)) by rw [HIk.out, e1']; simp)
    clear v0 v1 v2 v3 v4 v5 v6 v7 v8 v9 v10 u0 u1 u2 u3 u4 u5 u6 u7 u8 u9 hg7 HS6 HB6 HG6 HIk z4
    generalize (!decide (y2 + (y4 - 1) + d ≤ L)) = o2 at *
    clear e1 e1' hz hv hmz
    cases o1 with
    | true =>
     have hR := hid (HYes.out (by rw [HI2.out]; rfl))
     go_wp2
     go_ret
     exact ⟨by rw [hR.out]; rfl, HGG.out⟩
    | false =>
     cases o2 with
     | true =>
      have hR := hid (HYes.out (by rw [HI2.out]; rfl))
      go_wp2
      go_ret
      exact ⟨by rw [hR.out]; rfl, HGG.out⟩
     | false =>
      have HNk := hid (HNok.out (by rw [HI2.out]; rfl)).out
      go_wp2
      go_roundw
      case rel => exact ⟨k + 1, by omega, by go_num, HNk.out, HG7.out⟩
      case measure => simp [intOf]; omega
   ·have e1 : decide ((0 : Int) < (y4 : Int)) = false := decide_eq_false (by omega)
    have e1' : decide (0 < y4) = false := decide_eq_false hz
    have HG7 := HG6
    have HGG : Hid (Grow w w6) := hid (HG0.out.trans HG7.out)
    have HI2 := hid (show is_ = o1 by rw [HIk.out, e1']; simp)
    clear HIk hz hv hmz
    cases o1 with
    | true =>
     have hR := hid (HYes.out (by rw [HI2.out]))
     go_wp2
     go_ret
     exact ⟨by rw [hR.out]; rfl, HGG.out⟩
    | false =>
     have HNk := hid (HNok.out (by rw [HI2.out])).out
     go_wp2
     go_roundw
     case rel => exact ⟨k + 1, by omega, by go_num, HNk.out, HG7.out⟩
     case measure => simp [intOf]; omega
  ·have e : k = n1 := by omega
   subst e
   have HNone := hid (show l.any ov1 = false by
    have h := HNo.out
    rw [List.take_of_length_le (by have := HL.out; omega)] at h
    rw [List.any_eq_false]
    intro s hs
    rw [h s hs]
    decide)
   have HE2 := hid (show R = ((!decide (en = 0) && !decide (en + d + 0 ≤ L)) || l2.any ov2) by rw [E.out, HNone.out, Bool.false_or])
   have HBw := hid (HB0.out.grow HG.out)
   have HGw : Hid (Grow w wr) := hid (HG0.out.trans HG.out)
   clear HNone HNo HB0 HG0 HG E HO1 HOk1 HS HL
   go_wp2_with fail
   generalize hwq : wr = wq at HBw HGw v8 ⊢
   clear hwq v8
   go_loopw [9] (fun i wr => ∃ k : Nat, k ≤ n2 ∧ i = .int .i64 k ∧ Hid (∀ s ∈ l2.take k, ov2 s = false) ∧ Grow wq wr) (fun i _ => n2 - (intOf i).toNat)
   case atStart => exact ⟨0, Nat.zero_le _, rfl, hid fun s h => absurd h (by simp), Grow.refl _⟩
   case round =>
    obtain ⟨k, hk, rfl, hno, hg⟩ := hrel
    have HNo := hid hno.out
    have HG := hid hg
    have HB1 := hid (HBw.out.grow hg)
    have v9 : wr.cell? ⟨gm, 9, none⟩ = some (.slice A2 n2 c2) := HB1.out.at 9
    clear hno hg
    by_cases hlt : k < n2
    ·have hkl : k < l2.length := by rw [← HM.out]; exact hlt
     obtain ⟨b, off, hAA, hb⟩ := HT.out.pos (by omega)
     subst hAA
     obtain ⟨Ak, nk, ck, -, p, gk⟩ := HT.out.at hkl
     have HKc : Hid (∀ W i, Grow w W → W.cell? ⟨b, i, none⟩ = w.cell? ⟨b, i, none⟩) := hid fun W i hW => Below.cell hW hb
     have HP : Hid (∀ i v, (seC l2[k] (.slice Ak nk ck))[i]? = some v → w.cell? ⟨b, off + k * 13 + i, none⟩ = some v) := hid p
     have had := (HOk2.out k hkl).addr
     have hfl := (HOk2.out k hkl).flags
     have HIk := hid (HO2.out l2[k])
     have HMem := hid (List.getElem_mem hkl)
     have HT' := hid (takeS l2 k hkl)
     clear p gk hb
     generalize l2[k] = s at *
     have HYes : Hid (ov2 s = true → R = true) := hid fun h => by
      rw [HE2.out, List.any_eq_true.2 ⟨s, HMem.out, h⟩]
      simp
     have HNok : Hid (ov2 s = false → Hid (∀ x ∈ l2.take (k + 1), ov2 x = false)) := hid fun h => hid fun a ha => by
      rw [HT'.out] at ha
      rcases List.mem_append.1 ha with h1 | h1
      ·exact HNo.out a h1
      ·obtain rfl : a = s := by simpa using h1
       exact h
     have HP2 : Hid (∀ W, Grow w W → W.cell? ⟨b, off + k * 13 + 2, none⟩ = some (.int .u64 (s.flags : Nat))) := hid (fun W hW => (HKc.out W (off + k * 13 + 2) hW).trans (HP.out 2 _ rfl))
     have HP3 : Hid (∀ W, Grow w W → W.cell? ⟨b, off + k * 13 + 3, none⟩ = some (.int .u64 (s.addr : Nat))) := hid (fun W hW => (HKc.out W (off + k * 13 + 3) hW).trans (HP.out 3 _ rfl))
     generalize ov2 s = is_ at *
     generalize s.flags = y2 at *
     generalize s.addr = y3 at *
     clear HMem HT' HNo HOk2 hkl HT HM HO2 HE2 HP HKc
     have w0 : (0 : Int) ≤ (k : Int) := by omega
     have w1 : (k : Int) < (n2 : Int) := by omega
     have zk : IntKind.i64.wrap ((k : Int) + 1) = (k : Int) + 1 := by rw [IntKind.wrap_i64]; omega
     go_wp2_with fail
     clear v9
     refine wp_region_chain [(0, true), (1, true), (2, true), (3, true), (4, true), (5, true), (6, true), (7, true), (8, false), (9, true)] (by kernel_rfl) (by kernel_rfl) (by kernel_rfl) ?_
     have HG2 : Hid (Grow wq wr.drew) := hid (HG.out.trans (Grow.of_drew _))
     have HB2 := hid HB1.out.drew
     clear HG HB1
     generalize wr.drew = V0 at *
     have q1 : ∀ W, Grow V0 W → _ := fun W hW => (HB2.out.grow hW).c11
     have q2 : ∀ W, Grow V0 W → _ := fun W hW => HP3.out W ((HGw.out.trans HG2.out).trans hW)
     repeat (refine chain_take rfl (by rfl) ?_ (fun W hG => ?_) ?_; rotate_left; (obtain ⟨v0, v1, v2, v3, v4, v5, v6, v7, v8, v9, v10⟩ := q1 W hG; have a3 := q2 W hG; go_simp; rfl); simp only [Act.put, List.setIfInBounds_toArray, List.set_cons_zero, List.set_cons_succ])
     clear q1 q2
     refine chain_only rfl (by rfl) (fun K hK => ?_)
     go_simp
     refine (HOv.out _ _ 0 V0 had hd (by decide)).mono ?_
     rintro e v1 ⟨rfl, hg1⟩
     refine hK _ _ hg1 ?_
     clear hK K
     have HG7 : Hid (Grow wq v1) := hid (HG2.out.trans hg1)
     have HGG : Hid (Grow w v1) := hid (HGw.out.trans HG7.out)
     have HB3 := hid (HB2.out.grow hg1)
     clear hg1 HG2 HB2
     generalize (!decide (y3 + d + 0 ≤ L)) = o1 at *
     repeat (refine chain_take rfl (by rfl) ?_ (fun W hG => ?_) ?_; rotate_left; (go_simp; rfl); simp only [Act.put, List.setIfInBounds_toArray, List.set_cons_zero, List.set_cons_succ])
     refine chain_done ?_
     have v9 : v1.cell? ⟨gm, 9, none⟩ = some (.slice (some ⟨b, off, none⟩) n2 c2) := HB3.out.at 9
     have a2 := HP2.out v1 HGG.out
     clear HP2 HP3 HB3
     have t1 : ((y2 : Int)).tdiv 2 = ((y2 / 2 : Nat) : Int) := (Int.ofNat_tdiv _ _).symm
     have t3 : IntKind.u64.wrap ((y2 / 2 : Nat) : Int) = ((y2 / 2 : Nat) : Int) := by rw [IntKind.wrap_u64]; omega
     by_cases hz : y2 / 2 % 2 = 1
     ·have t2 : (((y2 / 2 : Nat) : Int)).tmod 2 = 1 := by rw [show (((y2 / 2 : Nat) : Int)).tmod 2 = ((y2 / 2 % 2 : Nat) : Int) from (Int.ofNat_tmod _ _).symm, hz]; rfl
      have HI2 := hid (show is_ = o1 by rw [HIk.out, decide_eq_true hz]; simp)
      clear HIk hz
      generalize y2 / 2 = z1 at *
      cases o1 with
      | true =>
       have hR := hid (HYes.out (by rw [HI2.out]))
       go_wp2
       go_ret
       exact ⟨by rw [hR.out]; rfl, HGG.out⟩
      | false =>
       have HNk := hid (HNok.out (by rw [HI2.out])).out
       go_wp2
       go_roundw
       case rel => exact ⟨k + 1, by omega, by go_num, HNk.out, HG7.out⟩
       case measure => simp [intOf]; omega
     ·have t2 : (((y2 / 2 : Nat) : Int)).tmod 2 = 0 := by rw [show (((y2 / 2 : Nat) : Int)).tmod 2 = ((y2 / 2 % 2 : Nat) : Int) from (Int.ofNat_tmod _ _).symm, show y2 / 2 % 2 = 0 by omega]; rfl
      have HNk := hid (HNok.out (by rw [HIk.out, decide_eq_false hz]; simp)).out
      clear HIk hz
      generalize y2 / 2 = z1 at *
      go_wp2
      go_roundw
      case rel => exact ⟨k + 1, by omega, by go_num, HNk.out, HG7.out⟩
      case measure => simp [intOf]; omega
    ·have HR2 := hid (show R = (!decide (en = 0) && !decide (en + d + 0 ≤ L)) by
      rw [HE2.out]
      have h := HNo.out
      rw [List.take_of_length_le (by have := HM.out; omega)] at h
      rw [show l2.any ov2 = false from by
       rw [List.any_eq_false]
       intro s hs
       rw [h s hs]
       decide, Bool.or_false])
     have HGr : Hid (Grow w wr) := hid (HGw.out.trans HG.out)
     clear HE2 HNo HO2 HOk2 HT HM
     obtain ⟨v0, v1, v2, v3, v4, v5, v6, v7, v8, v9', v10⟩ := HB1.out.c11
     clear v9'
     go_wp2_with fail
     refine (HOv.out _ _ 0 _ he hd (by decide)).mono ?_
     rintro e w6 ⟨rfl, hg6⟩
     have HB6 := hid (HB1.out.grow hg6)
     have HGG : Hid (Grow w w6) := hid (HGr.out.trans hg6)
     have v7 : w6.cell? ⟨gm, 7, none⟩ = some (.int .u64 (en : Int)) := HB6.out.at 7
     generalize (!decide (en + d + 0 ≤ L)) = o1 at *
     by_cases h0 : en = 0
     ·subst h0
      have hR := hid (show R = false by rw [HR2.out]; rfl)
      go_wp2
      go_ret
      exact ⟨by rw [hR.out]; rfl, HGG.out⟩
     ·have e0 : ((en : Int) != 0) = true := by simp; omega
      have hR := hid (show R = o1 by rw [HR2.out, decide_eq_false h0]; simp)
      go_wp2
      go_ret
      exact ⟨by rw [hR.out]; rfl, HGG.out⟩
theorem refLast_any (a n : Nat) (w : World) (ha : a < 18446744073709551616) (hn : n < 18446744073709551616) (h0 : 0 < n) :
  Calls Try.prog 34 #[.int .u64 a, .int .u64 n] w fun e w' => e = .returned (.int .u64 (lastN a n : Nat)) ∧ w = w' := by
 rcases Nat.lt_trichotomy (a + n) 18446744073709551616 with h | h | h
 ·have E := hid (show lastN a n = a + n - 1 by unfold lastN; omega)
  have w1 : IntKind.u64.wrap ((a : Int) + n) = (a : Int) + n := by rw [IntKind.wrap_u64]; omega
  have w2 : IntKind.u64.wrap ((a : Int) + n - 1) = (a : Int) + n - 1 := by rw [IntKind.wrap_u64]; omega
  have d : decide ((a : Int) + n - 1 < a) = false := decide_eq_false (by omega)
  go_enter Try.func34, Try.ntmps34
  go_wp2
  go_ret
  exact ⟨ret_int (by rw [E.out]; omega), rfl⟩
 ·have E := hid (show lastN a n = 18446744073709551615 by unfold lastN; omega)
  have w1 : IntKind.u64.wrap ((a : Int) + n) = 0 := by rw [IntKind.wrap_u64]; omega
  have w2 : IntKind.u64.wrap (-1) = 18446744073709551615 := by decide +kernel
  have d : decide ((18446744073709551615 : Int) < a) = false := decide_eq_false (by omega)
  go_enter Try.func34, Try.ntmps34
  go_wp2
  go_ret
  exact ⟨ret_int (by rw [E.out]; rfl), rfl⟩
 ·have E := hid (show lastN a n = 18446744073709551615 by unfold lastN; omega)
  obtain ⟨r, hr⟩ : ∃ r : Nat, a + n = 18446744073709551616 + (r + 1) := ⟨a + n - 18446744073709551616 - 1, by omega⟩
  have w1 : IntKind.u64.wrap ((a : Int) + n) = r + 1 := by rw [IntKind.wrap_u64]; omega
  have w2 : IntKind.u64.wrap (r : Int) = r := by rw [IntKind.wrap_u64]; omega
  have d : decide ((r : Int) < a) = true := decide_eq_true (by omega)
  go_enter Try.func34, Try.ntmps34
  go_wp2
  go_ret
  exact ⟨ret_int (by rw [E.out]; rfl), rfl⟩
theorem refBelow_any (a n v : Nat) (w : World) (ha : a < 18446744073709551616) (hn : n < 18446744073709551616) :
  Calls Try.prog 13 #[.int .u64 a, .int .u64 n, .int .u64 v] w fun e w' => e = .returned (.bool (belowN a n v)) ∧ w = w' := by
 by_cases n0 : n = 0
 ·subst n0
  have E := hid (show belowN a 0 v = decide (a ≤ v) by simp [belowN])
  go_enter Try.func13, Try.ntmps13
  go_wp2
  go_ret
  exact ⟨ret_bool (by simp [E.out]), rfl⟩
 ·have E := hid (show belowN a n v = decide (lastN a n < v) by simp [belowN, n0])
  have d1 : ((n : Int) == 0) = false := by simp [n0]
  have hn0 := hid (Nat.pos_of_ne_zero n0)
  clear n0
  go_enter Try.func13, Try.ntmps13
  go_wp2_with (go_at_call 34; refine (refLast_any _ _ _ ha hn hn0.out).mono ?_; rintro e w' ⟨rfl, rfl⟩)
  go_ret
  exact ⟨ret_bool (by simp [E.out]), rfl⟩
theorem rfWord_any (wide big : Bool) (w : World) : Calls Try.prog 22 #[.agg #[.bool wide, .bool big]] w fun e w' => e = .returned (.int .i64 (byWide wide 4 8 : Nat)) ∧ Grow w w' := by
 cases wide
 ·go_enter Try.func22, Try.ntmps22
  go_wp2
  go_ret
  exact ⟨rfl, Grow.of_alloc _ _⟩
 ·go_enter Try.func22, Try.ntmps22
  go_wp2
  go_ret
  exact ⟨rfl, Grow.of_alloc _ _⟩
end Go.Proofs.Ytfpihkbpelbcbaa
