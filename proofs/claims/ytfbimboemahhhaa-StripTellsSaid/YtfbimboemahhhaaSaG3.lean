/-
  Several texts in one: The contract of bytes; The contract of model; The contracts of strip's small functions; The contract of strip's table; The contract of strip's goAlone.
-/
import Derived.Test.YtfbimboemahhhaaRows
import Derived.Test.YtfbimboemahhhaaSaG2
import Derived.Lib.Strings
import Derived.Laws.Bits64b
import Derived.Deep.OwnRows
namespace Go.Proofs.Ytfbimboemahhhaa
open Go.Lib (hid)
open Go.RowKit
set_option maxRecDepth 100000
set_option maxHeartbeats 400000 in
theorem clone_some (a : Addr) (n c : Nat) (l : List UInt8) (B : Nat) (w : World) (h : RB w B (some a) n c l) (hB : B ≤ w.heap.size) (hn : n ≤ 140737488355328) :
  Calls Try.prog 26 #[.slice (some a) n c] w fun e w' => ∃ A2 c2, e = .returned (.slice A2 n c2) ∧ OB w' w.heap.size 5 A2 n c2 l ∧ Grow w w' := by
 have HR := hid h
 have HL := hid h.len
 have hc := h.cap
 have hm := h.max
 unfold maxLen at hm
 clear h
 have hz : n ≤ 140737488355328 := hn
 have HO := hid (OB.of_blk (base := w.heap.size) (l := []) (Blk.new w 5 #[]) (Nat.le_refl _) (by decide))
 have hg1 := Grow.of_alloc w (.cells #[] 5)
 have HR1 := hid (HR.out.belowAt hg1 hB)
 have HG1 := hid hg1
 have HS1 := hid hg1.size
 clear hg1 HR
 have heq : ∀ w, (binOp .eql 49 (.slice (some a) n c) (.slice none 0 0)).run Try.prog w = .ok (.bool false) w := fun w => by rfl
 go_enter Try.func26, Try.ntmps26
 go_wp2_with (refine wpList_appendB (w.alloc (.cells #[] 5)) rfl (.tmp 5) (.tmp 6) 49 rfl w.heap.size 5 Try.underlying49 (by kernel_rfl) _ _ _ _ rfl HO.out B _ n c l rfl HR1.out (by simpa using hz) HS1.out ?_; intro A5 c5 w9 ho9 hb9; refine Hid.out ?_)
 have HO9 := hid ho9
 have HB9 : Hid (Grow w w9) := HG1.out.trans' hb9
 clear ho9 hb9 HO HR1 HG1 HS1
 refine hid ?_
 go_wp2
 go_ret
 have h9 := HO9.out
 rw [Nat.zero_add, List.nil_append] at h9
 exact ⟨A5, c5, rfl, h9, HB9.out⟩
def NewB (l : List UInt8) (w : World) (e : Ending) (w' : World) : Prop := ∃ A2 c2, e = .returned (.slice A2 l.length c2) ∧ OB w' w.heap.size 5 A2 l.length c2 l ∧ Grow w w'
theorem NewB.nil (w w' : World) (h : Grow w w') : NewB [] w (.returned (.slice none 0 0)) w' := ⟨none, 0, rfl, OB.nil, h⟩
theorem NewB.from {l : List UInt8} {w0 w w' : World} {e : Ending} (h : NewB l w e w') (hg : Grow w0 w) : NewB l w0 e w' := by
 obtain ⟨A2, c2, h1, h2, h3⟩ := h
 exact ⟨A2, c2, h1, h2.mono hg.size, hg.trans h3⟩
theorem clone_any (A : Option Addr) (n c : Nat) (l : List UInt8) (B : Nat) (w : World) (h : RB w B A n c l) (hB : B ≤ w.heap.size) (hn : n ≤ 140737488355328) :
  Calls Try.prog 26 #[.slice A n c] w (NewB l w) := by
 rcases A with _ | a
 ·have hl : l = [] := by
   rcases Nat.eq_zero_or_pos n with h0 | h0
   ·exact List.eq_nil_of_length_eq_zero (by rw [← h.len]; exact h0)
   ·obtain ⟨_, _, e, _⟩ := h.pos h0
    cases e
  subst hl
  clear h
  have heq : ∀ w, (binOp .eql 49 (.slice none n c) (.slice none 0 0)).run Try.prog w = .ok (.bool true) w := fun w => by rfl
  go_enter Try.func26, Try.ntmps26
  go_wp2
  go_ret
  exact NewB.nil _ _ (Grow.refl _)
 ·refine (clone_some a n c l B w h hB hn).mono ?_
  rintro e w' ⟨A2, c2, rfl, h1, h2⟩
  obtain rfl := h.len
  exact ⟨A2, c2, rfl, h1, h2⟩
theorem bytes_own {m : Md} {p : Pl} (h : p.inn = -1) : m.bytes p = p.own := by unfold Md.bytes; rw [if_pos h]
theorem bytes_in {m : Md} {p : Pl} (h : p.inn ≠ -1) : m.bytes p = if isSegN m.segs.length p.inn && p.within (m.seg p.inn).pl.own.length then (((m.seg p.inn).pl.own).drop p.off).take p.size else [] := by unfold Md.bytes; rw [if_neg h]
set_option maxHeartbeats 1000000 in
theorem mBytes_any (m : Md) (A1 A2 : Option Addr) (n1 c1 n2 c2 : Nat) (p : Pl) (ok : p.Ok) (A : Option Addr) (n c : Nat) (w : World) (g1 : ZR sgK w w.heap.size A1 n1 c1 m.segs) (g : RB w w.heap.size A n c p.own) (hb : (m.bytes p).length ≤ 140737488355328) :
  Calls Try.prog 62 #[.agg (mdC m (.slice A1 n1 c1) (.slice A2 n2 c2)), .agg (plC p (.slice A n c))] w (NewB (m.bytes p) w) := by
 have hpo := ok.off
 have hps := ok.size
 obtain ⟨x0, x1, x2, x3, x4, x5, x6, x7, x9, x10, hC⟩ := mdC_cells m (.slice A1 n1 c1) (.slice A2 n2 c2)
 by_cases h0 : p.inn = -1
 ·rw [bytes_own h0] at hb ⊢
  have HCl := hid (fun w' (hg : Grow w w') => clone_any A n c p.own _ w' (g.grow hg) (Nat.le_refl _) (by rw [g.len]; exact hb))
  rw [hC]
  unfold plC
  rw [h0]
  generalize p.own = l at HCl ⊢
  generalize p.off = po
  generalize p.size = ps
  clear hC hb g g1 h0 hpo hps ok
  go_enter Try.func62, Try.ntmps62
  go_wp2_with fail
  generalize hW : World.alloc _ _ = W0
  obtain ⟨b1, b2, hg0⟩ := blk2 hW
  clear hW
  have HG0 := hid hg0
  obtain ⟨y0, y1, y2, y3⟩ := b2.c4
  clear b1 b2 hg0
  go_wp2_with fail
  clear y0 y1 y2 y3
  refine (HCl.out _ HG0.out).mono ?_
  rintro e w1 hn
  have HN := hid (hn.from HG0.out)
  obtain ⟨A5, c5, rfl, -, -⟩ := hn
  go_wp2
  go_ret
  exact HN.out
 ·have hl := g1.len
  rw [bytes_in h0, ← hl] at hb ⊢
  have hI := mIsSeg_any m A1 A2 n1 c1 n2 c2 p.inn
  rw [hC] at hI ⊢
  clear hC
  cases hs : isSegN n1 p.inn with
  | false =>
   rw [hs] at hI
   have HI := hid hI
   have Hi : (p.inn == -1) = false := by simpa using h0
   rw [hs] at hb
   clear hI hs h0 hl g g1 hb hpo hps ok
   simp only [Bool.false_and]
   unfold plC
   generalize p.inn = i at HI Hi ⊢
   generalize p.off = po
   generalize p.size = ps
   go_enter Try.func62, Try.ntmps62
   go_wp2_with fail
   generalize hW : World.alloc _ _ = W0
   obtain ⟨b1, b2, hg0⟩ := blk2 hW
   clear hW
   have HG0 := hid hg0
   obtain ⟨y0, y1, y2, y3⟩ := b2.c4
   obtain ⟨v0, v1, v2, v3, v4, v5, v6, v7, v8, v9, v10⟩ := b1.c11
   clear b1 b2 hg0
   go_wp2_with fail
   clear y0 y1 y2 y3 v0 v1 v2 v3 v4 v5 v6 v7 v8 v9 v10
   refine (HI.out _).mono ?_
   rintro e w1 ⟨rfl, hg1⟩
   have HG1 : Hid (Grow w w1) := HG0.out.trans hg1
   clear hg1
   go_wp2
   go_ret
   exact NewB.nil _ _ HG1.out
  | true =>
   obtain ⟨k, hk, hkl⟩ := isSegN_true hs
   rw [hl] at hkl
   rw [hs] at hI
   rw [hk] at hI
   rw [hs, hk, m.seg_nat k hkl, Bool.true_and] at hb
   rw [hk, m.seg_nat k hkl, Bool.true_and]
   obtain ⟨b, off, rfl, hbb⟩ := g1.pos (by rw [g1.len]; omega)
   obtain ⟨Ak, nk, ck, -, hcell, gk⟩ := g1.at hkl
   have T9 : Hid (w.cell? ⟨b, off + k * 10 + 9, none⟩ = some (.slice Ak nk ck)) := hid (hcell 9 _ rfl)
   have hnk : m.segs[k].pl.own.length = nk := gk.len.symm
   have hnkm : nk ≤ maxLen := Nat.le_trans gk.cap gk.max
   have HWi := hid (fun w => mIsWithin_any p (.slice A n c) Ak nk ck w hnkm)
   have hkn : k < n1 := by rw [g1.len]; exact hkl
   have HBb := hid (show b < w.heap.size from hbb)
   have hn1m := g1.cap
   have hn1m' := g1.max
   unfold maxLen at hn1m' hnkm
   have gk' : RB w w.heap.size Ak nk ck m.segs[k].pl.own := gk
   rw [hnk] at hb ⊢
   have HI := hid hI
   obtain ⟨RS, hRS⟩ : ∃ RS, RS = if p.within nk = true then (m.segs[k].pl.own.drop p.off).take p.size else [] := ⟨_, rfl⟩
   rw [← hRS] at hb ⊢
   have E := hid (show p.within nk = decide (p.off + p.size ≤ nk) from rfl)
   unfold plC at HWi ⊢
   rw [hk] at HWi ⊢
   have e0 : ((k : Int) == -1) = false := by simp
   generalize p.within nk = V at E HWi hRS
   generalize p.off = po at HWi E hpo hRS ⊢
   generalize p.size = ps at E HWi hps hRS ⊢
   clear hcell
   generalize m.segs[k].pl.own = L at hRS gk gk' hnk
   have HRS := hid hRS
   clear hRS
   have GK := hid gk'
   clear hI hs gk gk' hnk hk h0 g1 g hbb hl ok
   go_enter Try.func62, Try.ntmps62
   go_wp2_with fail
   generalize hW : World.alloc _ _ = W0
   obtain ⟨b1, b2, hg0⟩ := blk2 hW
   clear hW
   have HB1 := hid b1
   have HB20 := hid b2
   have HG0 := hid hg0
   obtain ⟨y0, y1, y2, y3⟩ := b2.c4
   obtain ⟨v0, v1, v2, v3, v4, v5, v6, v7, v8, v9, v10⟩ := b1.c11
   clear b1 b2 hg0
   go_wp2_with fail
   clear y0 y1 y2 y3 v0 v1 v2 v3 v4 v5 v6 v7 v8 v9 v10
   refine (HI.out _).mono ?_
   rintro e w1 ⟨rfl, hg1⟩
   have HG1 : Hid (Grow w w1) := HG0.out.trans hg1
   have HB2 := hid (HB20.out.grow hg1)
   have y8 : w1.cell? ⟨w.heap.size, 8, none⟩ = some (.slice (some ⟨b, off, none⟩) n1 c1) := (HB1.out.grow hg1).at 8
   obtain ⟨y0, y1, y2, y3⟩ := HB2.out.c4
   have t9 : w1.cell? ⟨b, off + k * 10 + 9, none⟩ = some (.slice Ak nk ck) := (Below.cell HG1.out HBb.out).trans T9.out
   clear hg1 HG0 HB20 HB1 HI
   go_wp2_with fail
   clear y0 y1 y2 y3 y8 t9
   refine (HWi.out _).mono ?_
   rintro e w2 ⟨rfl, hg2⟩
   have HG2 : Hid (Grow w w2) := HG1.out.trans hg2
   obtain ⟨y0, y1, y2, y3⟩ := (HB2.out.grow hg2).c4
   clear hg2 HWi
   cases V with
   | false =>
    clear y0 y1 y2 y3
    go_wp2
    go_ret
    rw [HRS.out]
    exact NewB.nil _ _ HG2.out
   | true =>
    have hle : po + ps ≤ nk := by have := E.out; simpa using this.symm
    obtain ⟨A', c', hrun, hr⟩ := cut_any GK.out hle
    have e1 : (L.drop po).take ps = RS := HRS.out.symm
    rw [e1] at hr
    have HR := hid hr
    have HCl := hid (fun w' (hg : Grow w w') => clone_any A' ps c' _ _ w' (HR.out.grow hg) (Nat.le_refl _) (by rw [HR.out.len]; exact hb))
    have z1 : IntKind.u64.wrap ((po : Int) + (ps : Int)) = (po : Int) + (ps : Int) := by rw [IntKind.wrap_u64]; omega
    clear hr hle hb hnkm hpo hps E GK e1 HRS
    go_wp2_with fail
    clear y0 y1 y2 y3
    refine (HCl.out _ HG2.out).mono ?_
    rintro e w3 hn
    have HN := hid (hn.from HG2.out)
    obtain ⟨A5, c5, rfl, -, -⟩ := hn
    go_wp2
    go_ret
    exact HN.out
set_option maxRecDepth 100000
set_option linter.unusedVariables false
theorem and_two (F : Nat) (h : F < 18446744073709551616) : bits BinOp.and IntKind.u64 (F : Int) 2 = ((2 * (F / 2 % 2) : Nat) : Int) := by
 have h1 := bits_and_u64_nat F 2 h (by omega)
 have h2 : F &&& 2 = 2 * (F / 2 % 2) := by
  have h3 := Nat.and_div_two (a := F) (b := 2)
  have h4 := Nat.and_mod_two_pow (a := F) (b := 2) (n := 1)
  have h5 : F / 2 &&& 1 = F / 2 % 2 := Nat.and_one_is_mod _
  simp only [Nat.reducePow, Nat.reduceDiv, Nat.reduceMod, Nat.and_zero, h5] at h3 h4
  omega
 rw [← h2]
 exact h1
set_option maxHeartbeats 1000000 in
theorem mayGo_any (m : Md) (ok : m.Ok) (S1 : Value) (A2 : Option Addr) (n2 c2 : Nat) (w : World) (g2 : ZR seK w w.heap.size A2 n2 c2 m.secs) (k : Nat) (hk : k < n2) :
  Calls Try.prog 29 #[.agg (mdC m S1 (.slice A2 n2 c2)), .int .i64 (k : Int)] w fun e w' => e = .returned (.bool (m.mayGo k)) ∧ Grow w w' := by
 have hkl : k < m.secs.length := by rw [← g2.len]; exact hk
 obtain ⟨b, off, rfl, hb⟩ := g2.pos (by omega)
 obtain ⟨Ak, nk, ck, -, p, -⟩ := g2.at hkl
 have T2 := hid (show w.cell? ⟨b, off + k * 13 + 2, none⟩ = some (.int .u64 (m.secs[k].flags : Nat)) from p 2 _ rfl)
 have E := hid (show m.mayGo k = (decide (m.secs[k].flags / 2 % 2 = 0) && !decide ((k : Int) + 1 = m.str)) by unfold Md.mayGo; rw [m.sec_at hkl])
 have hf := (ok.secs _ (List.getElem_mem hkl)).flags
 have hs := ok.str
 have hc := g2.cap
 have hm := g2.max
 unfold maxLen at hm
 unfold I64 at hs
 have HBb := hid hb
 clear p hb g2
 unfold mdC
 generalize m.secs[k].flags = F at *
 generalize m.mayGo k = R at E ⊢
 generalize m.str = st at E hs ⊢
 generalize m.wide = f0
 generalize m.big = f1
 generalize m.osabi = f2
 generalize m.abi = f3
 generalize m.typ = f4
 generalize m.mach = f5
 generalize m.flags = f6
 generalize m.entry = f7
 clear hkl ok
 have q := and_two F hf
 obtain ⟨T, hT⟩ : ∃ T, T = IntKind.i64.wrap (st - 1) := ⟨_, rfl⟩
 have E2 : Hid (((k : Int) != T) = !decide ((k : Int) + 1 = st)) := hid (by
  rw [Bool.eq_iff_iff, bne_iff_ne, Bool.not_eq_true', decide_eq_false_iff_not, hT, IntKind.wrap_i64]
  omega)
 have z := hT.symm
 clear hT hs
 have w0 : (0 : Int) ≤ (k : Int) := by omega
 have w1 : (k : Int) < (n2 : Int) := by omega
 have t2 : ∀ o, (w.alloc o).cell? ⟨b, off + k * 13 + 2, none⟩ = some (.int .u64 (F : Nat)) := fun o => (Below.cell (Grow.of_alloc w o) HBb.out).trans T2.out
 clear T2 HBb
 rcases Nat.mod_two_eq_zero_or_one (F / 2) with hF | hF
 ·rw [hF] at q
  have E3 := hid (show R = ((k : Int) != T) by rw [E.out, E2.out, hF]; rfl)
  clear hF
  go_enter Try.func29, Try.ntmps29
  go_wp2
  go_ret
  exact ⟨ret_bool E3.out.symm, Grow.of_alloc _ _⟩
 ·rw [hF] at q
  have E3 := hid (show R = false by rw [E.out, hF]; rfl)
  clear hF
  go_enter Try.func29, Try.ntmps29
  go_wp2
  go_ret
  exact ⟨ret_bool E3.out.symm, Grow.of_alloc _ _⟩
set_option maxHeartbeats 1000000 in
theorem isSym_any (s : Se) (S : Value) (w : World) :
  Calls Try.prog 47 #[.agg (seC s S)] w fun e w' => e = .returned (.bool s.isSym) ∧ Grow w w' := by
 have E : Hid (s.isSym = (decide (s.typ = 2) || decide (s.typ = 18) || decide (s.typ = 4) || decide (s.typ = 9))) := hid rfl
 unfold seC
 generalize s.isSym = R at E ⊢
 generalize s.typ = t at E ⊢
 generalize s.name = f0
 generalize s.flags = f2
 generalize s.addr = f3
 generalize s.size = f4
 generalize s.link = f5
 generalize s.info = f6
 generalize s.align = f7
 generalize s.entsize = f8
 generalize s.pl.inn = f9
 generalize s.pl.off = f10
 generalize s.pl.size = f11
 by_cases h2 : t = 2
 ·have E2 := hid (show R = true by rw [E.out]; simp [h2])
  have d : ((t : Int) == 2) = true := by simp [h2]
  clear h2 E
  go_enter Try.func47, Try.ntmps47
  go_wp2
  go_ret
  exact ⟨ret_bool E2.out.symm, Grow.of_alloc _ _⟩
 have d2 : ((t : Int) == 2) = false := by simp; omega
 by_cases h18 : t = 18
 ·have E2 := hid (show R = true by rw [E.out]; simp [h18])
  have d : ((t : Int) == 18) = true := by simp [h18]
  clear h2 h18 E
  go_enter Try.func47, Try.ntmps47
  go_wp2
  go_ret
  exact ⟨ret_bool E2.out.symm, Grow.of_alloc _ _⟩
 have d18 : ((t : Int) == 18) = false := by simp; omega
 by_cases h4 : t = 4
 ·have E2 := hid (show R = true by rw [E.out]; simp [h4])
  have d : ((t : Int) == 4) = true := by simp [h4]
  clear h2 h18 h4 E
  go_enter Try.func47, Try.ntmps47
  go_wp2
  go_ret
  exact ⟨ret_bool E2.out.symm, Grow.of_alloc _ _⟩
 have d4 : ((t : Int) == 4) = false := by simp; omega
 by_cases h9 : t = 9
 ·have E2 := hid (show R = true by rw [E.out]; simp [h9])
  have d : ((t : Int) == 9) = true := by simp [h9]
  clear h2 h18 h4 h9 E
  go_enter Try.func47, Try.ntmps47
  go_wp2
  go_ret
  exact ⟨ret_bool E2.out.symm, Grow.of_alloc _ _⟩
 have d9 : ((t : Int) == 9) = false := by simp; omega
 have E2 := hid (show R = false by rw [E.out]; simp [h2, h18, h4, h9])
 clear h2 h18 h4 h9 E
 go_enter Try.func47, Try.ntmps47
 go_wp2
 go_ret
 exact ⟨ret_bool E2.out.symm, Grow.of_alloc _ _⟩
theorem begins_if (s t : Bs) : begins s t = (decide (t.length ≤ s.length) && (s.take t.length == t)) := by
 unfold begins
 congr 1
 rw [Bool.eq_iff_iff, decide_eq_true_iff, beq_iff_eq]
theorem pre_any (s t : Bs) (w : World) :
  Calls Try.prog 76 #[.string (bstr s), .string (bstr t)] w fun e w' => e = .returned (.bool (begins s t)) ∧ w = w' := by
 have hS := bstr_size s
 have hT := bstr_size t
 have E := hid (show begins s t = (decide ((bstr t).size ≤ (bstr s).size) && (((bstr s).extract 0 (bstr t).size).toList == (bstr t).toList)) by
  rw [begins_if, Lib.extract_toList, bstr_toList, bstr_list, hS, hT]
  simp)
 clear hS hT
 generalize begins s t = R at E ⊢
 generalize bstr s = S at E ⊢
 generalize bstr t = T at E ⊢
 go_enter Try.func76, Try.ntmps76
 go_wp2
 ·rename_i h
  go_ret
  exact ⟨ret_bool (by rw [E.out]; simp [h]), rfl⟩
 ·rename_i h
  go_ret
  exact ⟨ret_bool (by rw [E.out]; simp [h]), rfl⟩
theorem prefix_any (s t : Bs) (w : World) :
  Calls Try.prog 64 #[.string (bstr s), .string (bstr t)] w fun e w' => e = .returned (.bool (begins s t)) ∧ w = w' := by
 have HP := hid (pre_any s t)
 generalize begins s t = R at HP ⊢
 generalize bstr s = S at HP ⊢
 generalize bstr t = T at HP ⊢
 go_enter Try.func64, Try.ntmps64
 go_wp2_with (go_at_call 76; refine (HP.out _).mono ?_; rintro e w' ⟨rfl, rfl⟩)
 go_ret
 exact ⟨rfl, rfl⟩
set_option maxHeartbeats 1000000 in
theorem isDbg_any (s : Se) (S : Value) (A : Option Addr) (n c : Nat) (l : Bs) (w : World) (h : RB w w.heap.size A n c l) (hn : s.name < 4294967296) :
  Calls Try.prog 48 #[.agg (seC s S), .slice A n c] w fun e w' => e = .returned (.bool (isDbg ((nameAt l s.name).getD []))) ∧ Grow w w' := by
 have HG := hid (fun W (hg : Grow w W) => strGet_any A n c l s.name W (h.grow hg) (by omega))
 unfold GotN at HG
 have z : IntKind.u64.wrap (s.name : Int) = (s.name : Int) := by rw [IntKind.wrap_u64]; omega
 unfold seC
 unfold isDbg
 clear h
 generalize (nameAt l s.name).isSome = bb at HG
 generalize (nameAt l s.name).getD [] = nm at HG ⊢
 have HP1 := hid (fun W => prefix_any nm dotD W)
 have HP2 := hid (fun W => prefix_any nm dotZ W)
 generalize begins nm dotD = X at HP1 ⊢
 generalize begins nm dotZ = Y at HP2 ⊢
 have e1 : bstr dotD = { data := #[46, 100, 101, 98, 117, 103] } := rfl
 have e2 : bstr dotZ = { data := #[46, 122, 100, 101, 98, 117, 103] } := rfl
 rw [e1] at HP1
 rw [e2] at HP2
 clear e1 e2
 generalize bstr nm = SS at HG HP1 HP2
 generalize s.name = f0 at *
 generalize s.typ = f1
 generalize s.flags = f2
 generalize s.addr = f3
 generalize s.size = f4
 generalize s.link = f5
 generalize s.info = f6
 generalize s.align = f7
 generalize s.entsize = f8
 generalize s.pl.inn = f9
 generalize s.pl.off = f10
 generalize s.pl.size = f11
 go_enter Try.func48, Try.ntmps48
 go_wp2_with fail
 refine (HG.out _ (Grow.of_alloc _ _)).mono ?_
 rintro e w1 ⟨rfl, rfl⟩
 go_wp2_with fail
 refine (HP1.out _).mono ?_
 rintro e w1 ⟨rfl, rfl⟩
 cases X with
 | true =>
  go_wp2
  go_ret
  exact ⟨rfl, Grow.of_alloc _ _⟩
 | false =>
  go_wp2_with fail
  refine (HP2.out _).mono ?_
  rintro e w1 ⟨rfl, rfl⟩
  go_wp2
  go_ret
  exact ⟨by simp, Grow.of_alloc _ _⟩
set_option maxRecDepth 100000
set_option linter.unusedVariables false
set_option maxHeartbeats 1000000 in
theorem table_any (m : Md) (ok : m.Ok) (A1 A2 : Option Addr) (n1 c1 n2 c2 : Nat) (w : World) (g1 : ZR sgK w w.heap.size A1 n1 c1 m.segs) (g2 : ZR seK w w.heap.size A2 n2 c2 m.secs) (hsm : m.strs.length ≤ 140737488355328) :
  Calls Try.prog 46 #[.agg (mdC m (.slice A1 n1 c1) (.slice A2 n2 c2))] w (NewB m.strs w) := by
 obtain ⟨x0, x1, x2, x3, x4, x5, x6, x7, hC⟩ : ∃ x0 x1 x2 x3 x4 x5 x6 x7 : Value, (∀ s t, mdC m s t = #[x0, x1, x2, x3, x4, x5, x6, x7, s, t, .int .i64 m.str]) := ⟨_, _, _, _, _, _, _, _, fun _ _ => rfl⟩
 have hs := ok.str
 have hc := g2.cap
 have hm := g2.max
 unfold maxLen at hm
 unfold I64 at hs
 by_cases h1 : m.str < 1
 ·have E := hid (show m.strs = [] by unfold Md.strs Md.noStr; rw [decide_eq_true h1]; rfl)
  rw [hC]
  clear hC g1 g2 hsm ok
  generalize m.strs = R at E ⊢
  generalize m.str = st at *
  have d1 : decide (st < 1) = true := decide_eq_true h1
  go_enter Try.func46, Try.ntmps46
  go_wp2
  go_ret
  rw [E.out]
  exact NewB.nil _ _ (Grow.of_alloc _ _)
 have d1 : decide (m.str < 1) = false := decide_eq_false h1
 by_cases h2 : (n2 : Int) < m.str
 ·have E := hid (show m.strs = [] by unfold Md.strs Md.noStr; rw [← g2.len, decide_eq_true h2, Bool.or_true]; rfl)
  rw [hC]
  clear hC g1 g2 hsm ok
  generalize m.strs = R at E ⊢
  generalize m.str = st at *
  have d2 : decide ((n2 : Int) < st) = true := decide_eq_true h2
  clear h1
  go_enter Try.func46, Try.ntmps46
  go_wp2
  go_ret
  rw [E.out]
  exact NewB.nil _ _ (Grow.of_alloc _ _)
 have d2 : decide ((n2 : Int) < m.str) = false := decide_eq_false h2
 obtain ⟨k, hk⟩ : ∃ k : Nat, m.str = (k : Int) + 1 := ⟨(m.str - 1).toNat, by omega⟩
 have hkn : k < n2 := by omega
 have hkl : k < m.secs.length := by rw [← g2.len]; exact hkn
 have E : m.strs = m.bytes m.secs[k].pl := by
  unfold Md.strs Md.noStr
  rw [← g2.len, d1, d2]
  have : m.tab = m.secs[k] := by
   have := m.sec_at hkl
   unfold Md.sec at this
   unfold Md.tab
   rw [show (m.str - 1).toNat = k by omega, this]
  rw [this]
  rfl
 obtain ⟨b, off, hA, hb⟩ := g2.pos (by omega)
 subst hA
 obtain ⟨Ak, nk, ck, -, p, gk⟩ := g2.at hkl
 rw [E] at hsm ⊢
 have HBy := hid (fun W (hW : Grow w W) => mBytes_any m A1 (some ⟨b, off, none⟩) n1 c1 n2 c2 m.secs[k].pl (ok.secs _ (List.getElem_mem hkl)).pl Ak nk ck W (g1.grow hW) (gk.belowAt hW (Nat.le_refl _) |>.more hW.size) hsm)
 have HP : Hid (∀ i v, (seC m.secs[k] (.slice Ak nk ck))[i]? = some v → w.cell? ⟨b, off + k * 13 + i, none⟩ = some v) := hid p
 rw [hC] at HBy ⊢
 have HBb := hid hb
 unfold plC at HBy
 unfold seC at HP
 generalize m.bytes m.secs[k].pl = R at HBy ⊢
 clear hC g1 g2 p gk hsm E ok hb
 generalize m.secs[k] = s at HBy HP
 rw [hk] at *
 clear hk hs h1 h2 hkl
 have z : IntKind.i64.wrap (k : Int) = (k : Int) := by rw [IntKind.wrap_i64]; omega
 have w0 : (0 : Int) ≤ (k : Int) := by omega
 have w1 : (k : Int) < (n2 : Int) := by omega
 go_enter Try.func46, Try.ntmps46
 go_wp2_with fail
 clear d1 d2
 generalize hW : World.alloc _ _ = W0
 obtain ⟨b1, hg0⟩ := blk1 hW
 clear hW
 have HB1 := hid b1.drew
 have HG0 : Hid (Grow w W0.drew) := hid (hg0.trans (Grow.of_drew _))
 clear b1 hg0
 refine wp_region_chain [(0, true), (1, true), (2, true), (3, true), (4, true), (5, true), (6, true), (7, true), (8, true), (9, false), (10, true)] (by kernel_rfl) (by kernel_rfl) (by kernel_rfl) ?_
 generalize W0.drew = v0 at HB1 HG0 ⊢
 have q0 : ∀ W, Grow v0 W → W.cell? ⟨w.heap.size, 0, none⟩ = some x0 := fun W hW => (HB1.out.grow hW).at 0
 have q1 : ∀ W, Grow v0 W → W.cell? ⟨w.heap.size, 1, none⟩ = some x1 := fun W hW => (HB1.out.grow hW).at 1
 have q2 : ∀ W, Grow v0 W → W.cell? ⟨w.heap.size, 2, none⟩ = some x2 := fun W hW => (HB1.out.grow hW).at 2
 have q3 : ∀ W, Grow v0 W → W.cell? ⟨w.heap.size, 3, none⟩ = some x3 := fun W hW => (HB1.out.grow hW).at 3
 have q4 : ∀ W, Grow v0 W → W.cell? ⟨w.heap.size, 4, none⟩ = some x4 := fun W hW => (HB1.out.grow hW).at 4
 have q5 : ∀ W, Grow v0 W → W.cell? ⟨w.heap.size, 5, none⟩ = some x5 := fun W hW => (HB1.out.grow hW).at 5
 have q6 : ∀ W, Grow v0 W → W.cell? ⟨w.heap.size, 6, none⟩ = some x6 := fun W hW => (HB1.out.grow hW).at 6
 have q7 : ∀ W, Grow v0 W → W.cell? ⟨w.heap.size, 7, none⟩ = some x7 := fun W hW => (HB1.out.grow hW).at 7
 have q8 : ∀ W, Grow v0 W → W.cell? ⟨w.heap.size, 8, none⟩ = some (.slice A1 n1 c1) := fun W hW => (HB1.out.grow hW).at 8
 have q9 : ∀ W, Grow v0 W → W.cell? ⟨w.heap.size, 9, none⟩ = some (.slice (some ⟨b, off, none⟩) n2 c2) := fun W hW => (HB1.out.grow hW).at 9
 have q10 : ∀ W, Grow v0 W → W.cell? ⟨w.heap.size, 10, none⟩ = some (.int .i64 ((k : Int) + 1)) := fun W hW => (HB1.out.grow hW).at 10
 have t9 : ∀ W, Grow v0 W → W.cell? ⟨b, off + k * 13 + 9, none⟩ = some (.int .i64 s.pl.inn) := fun W hW => (Below.cell (HG0.out.trans hW) HBb.out).trans (HP.out 9 _ rfl)
 have t10 : ∀ W, Grow v0 W → W.cell? ⟨b, off + k * 13 + 10, none⟩ = some (.int .u64 (s.pl.off : Nat)) := fun W hW => (Below.cell (HG0.out.trans hW) HBb.out).trans (HP.out 10 _ rfl)
 have t11 : ∀ W, Grow v0 W → W.cell? ⟨b, off + k * 13 + 11, none⟩ = some (.int .u64 (s.pl.size : Nat)) := fun W hW => (Below.cell (HG0.out.trans hW) HBb.out).trans (HP.out 11 _ rfl)
 have t12 : ∀ W, Grow v0 W → W.cell? ⟨b, off + k * 13 + 12, none⟩ = some (.slice Ak nk ck) := fun W hW => (Below.cell (HG0.out.trans hW) HBb.out).trans (HP.out 12 _ rfl)
 repeat ((first | (refine chain_take rfl (by rfl) ?_ (fun W hG => ?_) ?_; rotate_left; (go_simp; rfl)) | refine chain_skip rfl (by rfl) ?_); simp only [Act.put, List.setIfInBounds_toArray, List.set_cons_zero, List.set_cons_succ])
 clear q0 q1 q2 q3 q4 q5 q6 q7 q8 q9 q10 t9 t10 t11 t12
 refine chain_only rfl (by rfl) (fun K hK => ?_)
 go_simp
 refine (HBy.out _ HG0.out).mono ?_
 rintro e w3 hn
 have HN := hid (hn.from HG0.out)
 obtain ⟨A5, c5, rfl, -, hg⟩ := hn
 refine hK _ _ hg ?_
 clear hK K
 repeat ((first | (refine chain_take rfl (by rfl) ?_ (fun W hG => ?_) ?_; rotate_left; (go_simp; rfl)) | refine chain_skip rfl (by rfl) ?_); simp only [Act.put, List.setIfInBounds_toArray, List.set_cons_zero, List.set_cons_succ])
 refine chain_done ?_
 go_wp2
 go_ret
 exact HN.out
set_option maxRecDepth 100000
set_option linter.unusedVariables false
def bvl (f : Nat → Bool) (i : Nat) : Value := .bool (f i)
theorem bools_grow {w w' : World} {g n : Nat} {t : TypeId} {f : Nat → Value} (h : w.rowIs g t n f) (hg : Grow w w') : w'.rowIs g t n f := h.of_block (hg.block g h.lt)
theorem bools_new (w : World) (t : TypeId) (n : Nat) : (w.alloc (.cells (madeCells #[.bool false] n) t)).rowIs w.heap.size t n (bvl fun _ => false) := World.rowIs_made w (.bool false) n t
def bTo (f : Nat → Bool) (k i : Nat) : Bool := decide (i < k) && f i
theorem bTo_set (f : Nat → Bool) (k j : Nat) (b : Bool) (hb : f k = b) : (if j = k then Value.bool b else bvl (bTo f k) j) = bvl (bTo f (k + 1)) j := by
 unfold bvl bTo
 by_cases e : j = k
 ·subst e
  rw [if_pos rfl, decide_eq_true (by omega), Bool.true_and, hb]
 ·rw [if_neg e]
  congr 2
  rw [Bool.eq_iff_iff, decide_eq_true_iff, decide_eq_true_iff]
  omega
theorem bTo_all {w : World} {g n : Nat} {t : TypeId} {f : Nat → Bool} (h : w.rowIs g t n (bvl (bTo f n))) : w.rowIs g t n (bvl f) := h.congr fun i hi => by unfold bvl bTo; rw [decide_eq_true hi, Bool.true_and]
theorem Blk.a11 {w : World} {g : Nat} {t : TypeId} {a0 a1 a2 a3 a4 a5 a6 a7 a8 a9 a10 : Value} (h : Blk w g t #[a0, a1, a2, a3, a4, a5, a6, a7, a8, a9, a10]) :
  (∀ o, (w.alloc o).cell? ⟨g, 0, none⟩ = some a0) ∧ (∀ o, (w.alloc o).cell? ⟨g, 1, none⟩ = some a1) ∧ (∀ o, (w.alloc o).cell? ⟨g, 2, none⟩ = some a2) ∧ (∀ o, (w.alloc o).cell? ⟨g, 3, none⟩ = some a3) ∧ (∀ o, (w.alloc o).cell? ⟨g, 4, none⟩ = some a4) ∧ (∀ o, (w.alloc o).cell? ⟨g, 5, none⟩ = some a5) ∧ (∀ o, (w.alloc o).cell? ⟨g, 6, none⟩ = some a6) ∧ (∀ o, (w.alloc o).cell? ⟨g, 7, none⟩ = some a7) ∧ (∀ o, (w.alloc o).cell? ⟨g, 8, none⟩ = some a8) ∧ (∀ o, (w.alloc o).cell? ⟨g, 9, none⟩ = some a9) ∧ (∀ o, (w.alloc o).cell? ⟨g, 10, none⟩ = some a10) :=
 ⟨fun o => (h.alloc o).at 0, fun o => (h.alloc o).at 1, fun o => (h.alloc o).at 2, fun o => (h.alloc o).at 3, fun o => (h.alloc o).at 4, fun o => (h.alloc o).at 5, fun o => (h.alloc o).at 6, fun o => (h.alloc o).at 7, fun o => (h.alloc o).at 8, fun o => (h.alloc o).at 9, fun o => (h.alloc o).at 10⟩
set_option maxHeartbeats 4000000 in
theorem goAlone_any (m : Md) (ok : m.Ok) (A1 A2 : Option Addr) (n1 c1 n2 c2 : Nat) (w : World) (g1 : ZR sgK w w.heap.size A1 n1 c1 m.segs) (g2 : ZR seK w w.heap.size A2 n2 c2 m.secs) (hsm : m.strs.length ≤ 140737488355328) (hn : n2 ≤ 65536) :
  Calls Try.prog 27 #[.agg (mdC m (.slice A1 n1 c1) (.slice A2 n2 c2))] w fun e w' => ∃ g, e = .returned (.slice (some ⟨g, 0, none⟩) n2 n2) ∧ w.heap.size ≤ g ∧ w'.rowIs g 4 n2 (bvl m.alone) ∧ Grow w w' := by
 obtain ⟨x0, x1, x2, x3, x4, x5, x6, x7, x10, hC⟩ : ∃ x0 x1 x2 x3 x4 x5 x6 x7 x10 : Value, (∀ s t, mdC m s t = #[x0, x1, x2, x3, x4, x5, x6, x7, s, t, x10]) := ⟨_, _, _, _, _, _, _, _, _, fun _ _ => rfl⟩
 have HT := hid (fun W (hW : Grow w W) => table_any m ok A1 A2 n1 c1 n2 c2 W (g1.grow hW) (g2.grow hW) hsm)
 have HM := hid (fun W (hW : Grow w W) k hk => mayGo_any m ok (.slice A1 n1 c1) A2 n2 c2 W (g2.grow hW) k hk)
 have HZ := hid g2
 have HL := hid g2.len
 have HOk := hid ok.secs
 have hc := g2.cap
 have hm := g2.max
 unfold maxLen at hm
 have HA : Hid (∀ k (h : k < m.secs.length), m.alone k = (m.mayGo k && (m.secs[k].isSym || isDbg ((nameAt m.strs m.secs[k].name).getD [])))) := hid fun k h => by
  unfold Md.alone Md.nmOf
  rw [m.sec_at h]
 rw [hC] at HT HM ⊢
 clear hC g1 g2 hsm ok
 have hmk : ∀ W : World, (Instr.makeSlice 38 (.int .i64 (n2 : Int)) (.int .i64 (n2 : Int))).run Try.prog W = .ok (.slice (some ⟨W.heap.size, 0, none⟩) n2 n2) (W.alloc (.cells (madeCells #[.bool false] n2) 4)) :=
  fun W => run_make_row' 38 4 (.bool false) 1 Try.underlying38 (by kernel_rfl) rfl _ _ n2 (by omega) (by omega) W
 generalize m.alone = F at *
 generalize m.mayGo = G at *
 generalize m.strs = ls at *
 generalize m.secs = L at *
 unfold NewB at HT
 go_enter Try.func27, Try.ntmps27
 go_wp2_with fail
 generalize hW : World.alloc _ _ = W0
 obtain ⟨b1, hg0⟩ := blk1 hW
 clear hW
 have HB0 := hid b1
 have HG0 := hid hg0
 obtain ⟨gm, hgm⟩ : ∃ g, g = w.heap.size := ⟨_, rfl⟩
 rw [← hgm] at HB0 ⊢
 clear b1 hg0 hgm
 obtain ⟨v0, v1, v2, v3, v4, v5, v6, v7, v8, v9, v10⟩ := HB0.out.c11
 go_wp2_with fail
 clear v0 v1 v2 v3 v4 v5 v6 v7 v8 v9 v10
 refine (HT.out _ HG0.out).mono ?_
 rintro e w1 ⟨At, ct, rfl, ho, hg⟩
 have HB1 := hid (HB0.out.grow hg)
 have HG1 : Hid (Grow w w1) := hid (HG0.out.trans hg)
 have HNm := hid ho.rb
 have y9 : w1.cell? ⟨gm, 9, none⟩ = some (.slice A2 n2 c2) := HB1.out.at 9
 have y9b : ∀ o, (w1.alloc o).cell? ⟨gm, 9, none⟩ = some (.slice A2 n2 c2) := fun o => (HB1.out.alloc o).at 9
 clear ho hg HB0 HG0 HT
 go_wp2_with fail
 clear y9 y9b
 have HR1 := hid (bools_new w1 4 n2)
 have HGr := hid (Grow.of_alloc w1 (.cells (madeCells #[.bool false] n2) 4))
 obtain ⟨gb, hgb⟩ : ∃ g, g = w1.heap.size := ⟨_, rfl⟩
 have HGB := hid (show w1.heap.size ≤ gb by omega)
 rw [← hgb] at HR1 ⊢
 clear hgb hmk
 generalize w1.alloc (.cells (madeCells #[.bool false] n2) 4) = W2 at HR1 HGr ⊢
 go_loopw [16] (fun i wr => ∃ k : Nat, k ≤ n2 ∧ i = .int .i64 k ∧ wr.rowIs gb 4 n2 (bvl (bTo F k)) ∧ Grow w1 wr) (fun i _ => n2 - (intOf i).toNat)
 case atStart => exact ⟨0, Nat.zero_le _, rfl, HR1.out.congr fun i _ => by simp [bvl, bTo], HGr.out⟩
 case round =>
  obtain ⟨k, hk, rfl, hrow, hg⟩ := hrel
  have HR := hid hrow
  have HGw := hid hg
  clear HR1 HGr hrow hg
  by_cases hlt : k < n2
  ·have hkl : k < L.length := by rw [← HL.out]; exact hlt
   obtain ⟨b, off, hAA, hb⟩ := HZ.out.pos (by omega)
   subst hAA
   obtain ⟨Ak, nk, ck, -, p, -⟩ := HZ.out.at hkl
   have p' : ∀ i v, (seC L[k] (.slice Ak nk ck))[i]? = some v → wr.cell? ⟨b, off + k * 13 + i, none⟩ = some v := fun i v hv => (Below.cell (HG1.out.trans HGw.out) hb).trans (p i v hv)
   have HFk := hid (HA.out k hkl)
   have hnm := (HOk.out _ (List.getElem_mem hkl)).name
   have HIs := hid (fun W => isSym_any L[k] (.slice Ak nk ck) W)
   have HId := hid (fun W (hW : Grow w1 W) => isDbg_any L[k] (.slice Ak nk ck) At ls.length ct ls W (HNm.out.grow hW) hnm)
   have HMk := hid (fun W (hW : Grow w W) => HM.out W hW k hlt)
   clear hb p hnm
   unfold seC at p' HIs HId
   generalize isDbg ((nameAt ls L[k].name).getD []) = Y at HFk HId
   generalize L[k].isSym = X at HFk HIs
   generalize G k = Q at HFk HMk
   generalize L[k] = s at p' HIs HId
   clear hkl
   have s0 : wr.cell? ⟨b, off + k * 13, none⟩ = _ := p' 0 _ rfl
   have s1 : wr.cell? ⟨b, off + k * 13 + 1, none⟩ = _ := p' 1 _ rfl
   have s2 : wr.cell? ⟨b, off + k * 13 + 2, none⟩ = _ := p' 2 _ rfl
   have s3 : wr.cell? ⟨b, off + k * 13 + 3, none⟩ = _ := p' 3 _ rfl
   have s4 : wr.cell? ⟨b, off + k * 13 + 4, none⟩ = _ := p' 4 _ rfl
   have s5 : wr.cell? ⟨b, off + k * 13 + 5, none⟩ = _ := p' 5 _ rfl
   have s6 : wr.cell? ⟨b, off + k * 13 + 6, none⟩ = _ := p' 6 _ rfl
   have s7 : wr.cell? ⟨b, off + k * 13 + 7, none⟩ = _ := p' 7 _ rfl
   have s8 : wr.cell? ⟨b, off + k * 13 + 8, none⟩ = _ := p' 8 _ rfl
   have s9 : wr.cell? ⟨b, off + k * 13 + 9, none⟩ = _ := p' 9 _ rfl
   have s10 : wr.cell? ⟨b, off + k * 13 + 10, none⟩ = _ := p' 10 _ rfl
   have s11 : wr.cell? ⟨b, off + k * 13 + 11, none⟩ = _ := p' 11 _ rfl
   have s12 : wr.cell? ⟨b, off + k * 13 + 12, none⟩ = _ := p' 12 _ rfl
   clear p'
   have w0 : (0 : Int) ≤ (k : Int) := by omega
   have w1' : (k : Int) < (n2 : Int) := by omega
   have d1 : decide ((k : Int) < (n2 : Int)) = true := decide_eq_true (by omega)
   obtain ⟨v0, v1, v2, v3, v4, v5, v6, v7, v8, v9, v10⟩ := (HB1.out.grow HGw.out).a11
   go_wp2_with fail
   clear s0 s1 s2 s3 s4 s5 s6 s7 s8 s9 s10 s11 s12 v0 v1 v2 v3 v4 v5 v6 v7 v8 v9 v10
   generalize hW : World.alloc _ _ = W5
   obtain ⟨b5, hg5⟩ := blk1 hW
   clear hW
   obtain ⟨gs, hgs⟩ : ∃ g, g = wr.heap.size := ⟨_, rfl⟩
   rw [← hgs] at b5 ⊢
   clear hgs
   have HS5 := hid b5
   have HR5 := hid (bools_grow HR.out hg5)
   have HG5 : Hid (Grow w1 W5) := hid (HGw.out.trans hg5)
   clear b5 hg5 HR HGw
   refine (HMk.out _ (HG1.out.trans HG5.out)).mono ?_
   rintro e w6 ⟨rfl, hg⟩
   have HS6 := hid (HS5.out.grow hg)
   have HR6 := hid (bools_grow HR5.out hg)
   have HG6 : Hid (Grow w1 w6) := hid (HG5.out.trans hg)
   clear hg HS5 HR5 HG5
   cases Q with
   | false =>
    have hr := HR6.out.cell hlt
    have hf := HR6.out.frozen k
    have HR9 := hid (HR6.out.set k (.bool false))
    have HG9 := hid (HG6.out.cellset HGB.out k (.bool false))
    clear HIs HId HMk
    go_wp2
    go_roundw
    case rel => exact ⟨k + 1, by omega, by go_num, HR9.out.congr fun j _ => bTo_set F k j false (by rw [HFk.out]; rfl), HG9.out⟩
    case measure => simp [intOf]; omega
   | true =>
    obtain ⟨s0, s1, s2, s3, s4, s5, s6, s7, s8, s9, s10, s11, s12⟩ := HS6.out.c13
    go_wp2_with fail
    clear s0 s1 s2 s3 s4 s5 s6 s7 s8 s9 s10 s11 s12
    refine (HIs.out _).mono ?_
    rintro e w7 ⟨rfl, hg⟩
    have HS7 := hid (HS6.out.grow hg)
    have HR7 := hid (bools_grow HR6.out hg)
    have HG7 : Hid (Grow w1 w7) := hid (HG6.out.trans hg)
    clear hg HS6 HR6 HG6
    cases X with
    | true =>
     have hr := HR7.out.cell hlt
     have hf := HR7.out.frozen k
     have HR9 := hid (HR7.out.set k (.bool true))
     have HG9 := hid (HG7.out.cellset HGB.out k (.bool true))
     clear HIs HId HMk
     go_wp2
     go_roundw
     case rel => exact ⟨k + 1, by omega, by go_num, HR9.out.congr fun j _ => bTo_set F k j true (by rw [HFk.out]; rfl), HG9.out⟩
     case measure => simp [intOf]; omega
    | false =>
     obtain ⟨s0, s1, s2, s3, s4, s5, s6, s7, s8, s9, s10, s11, s12⟩ := HS7.out.c13
     go_wp2_with fail
     clear s0 s1 s2 s3 s4 s5 s6 s7 s8 s9 s10 s11 s12
     refine (HId.out _ HG7.out).mono ?_
     rintro e w8 ⟨rfl, hg⟩
     have HR8 := hid (bools_grow HR7.out hg)
     have HG8 : Hid (Grow w1 w8) := hid (HG7.out.trans hg)
     clear hg HS7 HR7 HG7
     have hr := HR8.out.cell hlt
     have hf := HR8.out.frozen k
     have HR9 := hid (HR8.out.set k (.bool Y))
     have HG9 := hid (HG8.out.cellset HGB.out k (.bool Y))
     clear HIs HId HMk
     go_wp2
     go_roundw
     case rel => exact ⟨k + 1, by omega, by go_num, HR9.out.congr fun j _ => bTo_set F k j Y (by rw [HFk.out]; rfl), HG9.out⟩
     case measure => simp [intOf]; omega
  ·have e : k = n2 := by omega
   subst e
   have d1 : decide ((k : Int) < (k : Int)) = false := decide_eq_false (by omega)
   go_wp2
   go_ret
   exact ⟨gb, rfl, Nat.le_trans HG1.out.size HGB.out, bTo_all HR.out, HG1.out.trans HGw.out⟩
end Go.Proofs.Ytfbimboemahhhaa
