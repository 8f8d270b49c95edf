/-
  Several texts in one: The walk of the document's own Parse, part B; The walk of the document's own Parse, part C; The walk of the document's own Parse, part D.
-/
import Derived.Test.YtlccbekalccahaaGreatDoorFqH35
namespace Go.Proofs.YtlccbekalccahaaGreatDoor
open Go.Lib (hid)
open Go.RowKit
set_option maxRecDepth 100000
set_option linter.unusedVariables false
set_option maxHeartbeats 20000000 in
theorem rp_1 (l : List UInt8) (A : Option Addr) (n c : Nat) (w : World) (hr : RB w w.heap.size A n c l) (hle : l.length ≤ 65536) (hT : HTold l 0 0 (hdOf l).V)
  (H : ∀ a W, I11 l A n c w a W → (sufOf 11 (bodyOf Tryz.f12)).wp Tryz.prog (bodyPost Tryz.prog Tryz.f12 (RParseR l w)) a W) :
  ∀ a W, I10 l A n c w a W → (sufOf 10 (bodyOf Tryz.f12)).wp Tryz.prog (bodyPost Tryz.prog Tryz.f12 (RParseR l w)) a W := by
 rintro a W ⟨z, h, f, m, s, base, hf, ha, hb, h15⟩
 obtain ⟨tv, rfl⟩ := rp_frame a hf.size hf.defers
 have hv0 : tv 0 = .slice A n c := hf.t0
 have hv2 : tv 2 = .pointer (some ⟨z, 0, none⟩) := hf.t2
 have hv5 : tv 5 = .pointer (some ⟨h, 0, none⟩) := hf.t5
 have hv8 : tv 8 = .pointer (some ⟨f, 0, none⟩) := hf.t8
 have hv9 : tv 9 = .int .u64 (n : Int) := hf.t9
 have hv11 : tv 11 = .int .i64 (pSize (lWide l) : Int) := hf.t11
 have hv12 : tv 12 = .int .i64 (sSize (lWide l) : Int) := hf.t12
 have hv13 : tv 13 = .pointer (some ⟨m, 0, none⟩) := hf.t13
 have hv14 : tv 14 = .pointer (some ⟨s, 0, none⟩) := hf.t14
 replace h15 : tv 15 = .int .u64 ((hdOf l).sn : Int) := h15
 have hv15 := h15
 clear h15
 rw [hv0, hv2, hv5, hv8, hv9, hv11, hv12, hv13, hv14, hv15]
 clear hv0 hv2 hv5 hv8 hv9 hv11 hv12 hv13 hv14 hv15
 clear hf
 have hn := hr.len
 have hcp := hr.cap
 have hmx := hr.max
 unfold maxLen at hmx
 have HA := hid ha
 clear ha
 have hok := hdOf_ok l
 have fok := fst_ok l
 have HGs : Hid ((hdOf l).sh ≠ 0 → ∀ W, Grow w W → Calls Tryz.prog 31 #[.slice A n c, .int .u64 ((hdOf l).sh : Int), .agg #[.bool (lWide l), .bool (lBig l)]] W fun e w' => ((hdOf l).sh + sSize (lWide l) ≤ n ∧ e = .returned (.tuple #[(fst_ l).V, .bool true]) ∧ Grow W w') ∨ (¬ (hdOf l).sh + sSize (lWide l) ≤ n ∧ e = .returned (.tuple #[sc0.V, .bool false]) ∧ Grow W w')) := hid fun h0 W hg =>
  (rGetSect_any A n c l (hdOf l).sh (lWide l) (lBig l) W (hr.grow hg) hok.sh).mono fun e w' hp => by
   rcases hp with ⟨h1, h2, h3⟩ | ⟨h1, h2, h3⟩
   ·exact .inl ⟨by rw [hn]; exact h1, by rw [h2]; unfold fst_; rw [if_neg h0], h3⟩
   ·exact .inr ⟨by rw [hn]; omega, h2, h3⟩
 have HL1 : Hid ((hdOf l).sh ≠ 0 → ¬ (hdOf l).sh + sSize (lWide l) ≤ n → PTold l 5 (oSh (lWide l)) mdN) := hid fun h1 h2 => pt_cnt hle hT (cnt_get h1 (by rwa [hn] at h2)) (by decide)
 have HL2 : Hid ((hdOf l).sh ≠ 0 → (hdOf l).sh + sSize (lWide l) ≤ n → nS l = 0 ∨ 65 < nS l → PTold l 8 (oSh (lWide l)) mdN) := hid fun h1 h2 h3 => pt_cnt hle hT (cnt_sc (fun h => h.2 (by rw [← hn]; exact h2)) (by unfold scE; rw [if_neg h1, if_pos h3]) (by decide)) (by decide)
 have HL3 : Hid ((hdOf l).sh ≠ 0 → (hdOf l).sh + sSize (lWide l) ≤ n → ¬ (nS l = 0 ∨ 65 < nS l) → ¬ (hdOf l).sh + nS l * sSize (lWide l) ≤ n → PTold l 5 (oSh (lWide l)) mdN) := hid fun h1 h2 h3 h4 => pt_cnt hle hT (cnt_sc (fun h => h.2 (by rw [← hn]; exact h2)) (by
  have hz : 0 < sSize (lWide l) := by cases lWide l <;> decide
  have hm : nS l * sSize (lWide l) ≠ 0 := Nat.ne_of_gt (Nat.mul_pos (by omega) hz)
  unfold scE; rw [if_neg h1, if_neg h3, inB_iff, if_neg (by rw [decide_eq_true_iff, ← hn]; omega)]) (by decide)) (by decide)
 have HL4 : Hid ((hdOf l).sh = 0 → nS l ≠ 0 → PTold l 4 (oSn (lWide l)) mdN) := hid fun h1 h2 => pt_cnt hle hT (cnt_sc (fun h => h.1 h1) (by unfold scE; rw [if_pos h1, if_pos h2]) (by decide)) (by decide)
 have HO1 : Hid ((hdOf l).sh = 0 → nS l = 0 → (scE l).1 = 0 ∧ ¬ ((hdOf l).sh ≠ 0 ∧ ¬ (hdOf l).sh + sSize (lWide l) ≤ l.length)) := hid fun h1 h2 => ⟨by unfold scE; rw [if_pos h1, if_neg (by omega)], fun h => h.1 h1⟩
 have HO2 : Hid ((hdOf l).sh ≠ 0 → (hdOf l).sh + sSize (lWide l) ≤ n → ¬ (nS l = 0 ∨ 65 < nS l) → (hdOf l).sh + nS l * sSize (lWide l) ≤ n → (scE l).1 = 0 ∧ ¬ ((hdOf l).sh ≠ 0 ∧ ¬ (hdOf l).sh + sSize (lWide l) ≤ l.length)) := hid fun h1 h2 h3 h4 => ⟨by
  unfold scE; rw [if_neg h1, if_neg h3, inB_iff, if_pos (by rw [decide_eq_true_iff, ← hn]; exact .inr h4)], fun h => h.2 (by rw [← hn]; exact h2)⟩
 have HnA : Hid ((hdOf l).sh = 0 → (hdOf l).sn = nS l ∧ fst_ l = sc0) := hid fun h1 => by
  have e : fst_ l = sc0 := by unfold fst_; rw [if_pos h1]
  refine ⟨?_, e⟩
  unfold nS
  rw [e]
  split
  ·rename_i h2; rw [h2]; rfl
  ·rfl
 have HnB : Hid (((hdOf l).sn = 0 → (fst_ l).sz = nS l) ∧ ((hdOf l).sn ≠ 0 → (hdOf l).sn = nS l)) := hid ⟨fun h1 => by unfold nS; rw [if_pos h1], fun h1 => by unfold nS; rw [if_neg h1]⟩
 have HFin : Hid (∀ a W', RpF A n c z h f m s (pSize (lWide l)) (sSize (lWide l)) a → a.tmps.getD 15 undef = .int .u64 (nS l : Int) → RPB w W' z h f m s (hdOf l).C #[.bool (lWide l), .bool (lBig l)] (hdM l (.slice none 0 0) (.slice none 0 0) 0) (fst_ l).C → ((scE l).1 = 0 ∧ ¬ ((hdOf l).sh ≠ 0 ∧ ¬ (hdOf l).sh + sSize (lWide l) ≤ l.length)) →
   (sufOf 11 (bodyOf Tryz.f12)).wp Tryz.prog (bodyPost Tryz.prog Tryz.f12 (RParseR l w)) a W') := hid fun a W' e1 e2 e3 e4 => H a W' ⟨z, h, f, m, s, base, e1, HA.out, e3, e2, e4.1, e4.2⟩
 have hz3 : sSize (lWide l) ≤ 64 := by cases lWide l <;> decide
 have hS3 := hok.sh
 have hsn := hok.sn
 have hsz := fok.sz
 obtain ⟨y2, y3, y4, y5, y6, y9, hC⟩ : ∃ y2 y3 y4 y5 y6 y9 : Value, (hdOf l).C = #[.bool (lWide l), .bool (lBig l), y2, y3, y4, y5, y6, .int .u64 ((hdOf l).ph : Int), .int .u64 ((hdOf l).sh : Int), y9, .int .u16 ((hdOf l).pn : Int), .int .u16 ((hdOf l).sn : Int), .int .u16 ((hdOf l).st : Int)] := ⟨_, _, _, _, _, _, rfl⟩
 rw [hC] at HFin hb
 clear hC
 obtain ⟨MC, hMC⟩ : ∃ x, hdM l (.slice none 0 0) (.slice none 0 0) 0 = x := ⟨_, rfl⟩
 rw [hMC] at HFin hb
 clear hMC
 clear H hr hle hT hn hok fok
 generalize (hdOf l).ph = ph at *
 generalize (hdOf l).sh = sh at *
 generalize (hdOf l).pn = pn at *
 generalize (hdOf l).sn = sn at *
 generalize (hdOf l).st = st at *
 generalize pSize (lWide l) = z2 at *
 generalize sSize (lWide l) = z3 at *
 generalize lWide l = wide at *
 generalize lBig l = big at *
 generalize nS l = S at *
 generalize fst_ l = fs at *
 have HP := hid hb
 clear hb
 conv => arg 2; whnf
 apply wp_seq_k
 intro K hK
 have HK := hid hK
 clear hK
 have v8 := HP.out.h.at 8
 by_cases h0 : sh = 0
 ·have d0 : ((sh : Int) != 0) = false := by simp [h0]
  obtain ⟨e1, e2⟩ := HnA.out h0
  have HO := hid (HO1.out h0)
  have HL := hid (HL4.out h0)
  subst e1
  subst e2
  clear h0 HL1 HL2 HL3 HL4 HO1 HO2 HnA HnB HGs
  by_cases h1 : sn = 0
  ·have d1 : ((sn : Int) != 0) = false := by simp [h1]
   have HO' := hid (HO.out h1)
   clear h1 HO HL
   go_wp2
   apply HK.out
   exact HFin.out _ _ ⟨rfl, rfl, rfl, rfl, rfl, rfl, rfl, rfl, rfl, rfl, rfl⟩ rfl HP.out HO'.out
  ·have d1 : ((sn : Int) != 0) = true := by simp [h1]
   have HPT := hid (HL.out h1)
   clear h1 HO HL HFin
   have f0 := HP.out.f.at 0
   have f1 := HP.out.f.at 1
   go_wp2_with fail
   clear f0 f1
   refine (where_sn wide big _).mono ?_
   rintro e wl ⟨rfl, hg⟩
   have HPl := hid (HP.out.grow hg)
   clear hg
   go_wp2_with (refine wpList_store_row rfl 32 (.tmp 2) (.tmp 123) rfl z #[.bool false, .bool false, .int .u8 0, .int .u8 0, .int .u16 0, .int .u16 0, .int .u32 0, .int .u64 0, .slice none 0 0, .slice none 0 0, .int .i64 0] rfl rfl _ _ HPl.out.z (by kernel_rfl) rfl (by simp [Value.oneCell']) ?_)
   exact rparse_no (by rfl) (by rfl) (by rfl) HPl.out.z HPT.out HPl.out.g HA.out.wz
 ·have d0 : ((sh : Int) != 0) = true := by simp [h0]
  have HGs' := hid (HGs.out h0)
  have HL1' := hid (HL1.out h0)
  have HL2' := hid (HL2.out h0)
  have HL3' := hid (HL3.out h0)
  have HO' := hid (HO2.out h0)
  clear h0 HL1 HL2 HL3 HL4 HO1 HO2 HnA HGs
  obtain ⟨na, ty, fl, ad, off, sz, li, inf, al, en⟩ := fs
  unfold Sc.V Sc.C sc0 at HGs'
  unfold Sc.C at HFin
  simp only [] at HGs' HFin HnB hsz
  have f0 := HP.out.f.at 0
  have f1 := HP.out.f.at 1
  go_wp2_with fail
  clear v8 d0 f0 f1
  refine (HGs'.out _ HP.out.g).mono ?_
  rintro e w2 (⟨hfit, rfl, hg⟩ | ⟨hfit, rfl, hg⟩)
  rotate_left
  ·have HPT := hid (HL1'.out hfit)
   have HP2 := hid ((HP.out.grow hg).grow (Grow.of_alloc w2 (.cells #[.int .u32 0, .int .u32 0, .int .u64 0, .int .u64 0, .int .u64 0, .int .u64 0, .int .u32 0, .int .u32 0, .int .u64 0, .int .u64 0] 80)))
   clear hfit hg HP HL1' HL2' HL3' HO' HGs' HnB HFin
   have f0 := HP2.out.f.at 0
   have f1 := HP2.out.f.at 1
   go_wp2_with fail
   clear f0 f1
   refine (where_sh wide big _).mono ?_
   rintro e wl ⟨rfl, hg⟩
   have HPl := hid (HP2.out.grow hg)
   clear hg
   go_wp2_with (refine wpList_store_row rfl 32 (.tmp 2) (.tmp 91) rfl z #[.bool false, .bool false, .int .u8 0, .int .u8 0, .int .u16 0, .int .u16 0, .int .u32 0, .int .u64 0, .slice none 0 0, .slice none 0 0, .int .i64 0] rfl rfl _ _ HPl.out.z (by kernel_rfl) rfl (by simp [Value.oneCell']) ?_)
   exact rparse_no (by rfl) (by rfl) (by rfl) HPl.out.z HPT.out HPl.out.g HA.out.wz
  have HFit := hid hfit
  have HPa := hid ((HP.out.grow hg).grow (Grow.of_alloc w2 (.cells #[.int .u32 (na : Int), .int .u32 (ty : Int), .int .u64 (fl : Int), .int .u64 (ad : Int), .int .u64 (off : Int), .int .u64 (sz : Int), .int .u32 (li : Int), .int .u32 (inf : Int), .int .u64 (al : Int), .int .u64 (en : Int)] 80)))
  have HXa := hid (Blk.new w2 80 #[.int .u32 (na : Int), .int .u32 (ty : Int), .int .u64 (fl : Int), .int .u64 (ad : Int), .int .u64 (off : Int), .int .u64 (sz : Int), .int .u32 (li : Int), .int .u32 (inf : Int), .int .u64 (al : Int), .int .u64 (en : Int)])
  have HNe : Hid (w2.heap.size ≠ s) := hid (by have := (HP.out.grow hg).s.lt; omega)
  clear hfit hg HP HGs' HL1'
  obtain ⟨x0, x1, x2, x3, x4, x5, x6, x7, x8, x9⟩ := HXa.out.c10
  go_wp2_with (refine wpList_store_row rfl 80 (.tmp 14) (.tmp 94) rfl s #[.int .u32 (na : Int), .int .u32 (ty : Int), .int .u64 (fl : Int), .int .u64 (ad : Int), .int .u64 (off : Int), .int .u64 (sz : Int), .int .u32 (li : Int), .int .u32 (inf : Int), .int .u64 (al : Int), .int .u64 (en : Int)] rfl rfl _ _ HPa.out.s (by kernel_rfl) rfl (by simp [Value.oneCell']) ?_; refine Hid.out ?_)
  clear x0 x1 x2 x3 x4 x5 x6 x7 x8 x9
  have HP3 := hid (HPa.out.setS HA.out #[.int .u32 (na : Int), .int .u32 (ty : Int), .int .u64 (fl : Int), .int .u64 (ad : Int), .int .u64 (off : Int), .int .u64 (sz : Int), .int .u32 (li : Int), .int .u32 (inf : Int), .int .u64 (al : Int), .int .u64 (en : Int)])
  have HX3 := hid (HXa.out.other HNe.out #[.int .u32 (na : Int), .int .u32 (ty : Int), .int .u64 (fl : Int), .int .u64 (ad : Int), .int .u64 (off : Int), .int .u64 (sz : Int), .int .u32 (li : Int), .int .u32 (inf : Int), .int .u64 (al : Int), .int .u64 (en : Int)])
  clear HPa HXa HNe
  generalize (w2.alloc _).setRow s _ = w3 at HP3 HX3 ⊢
  generalize w2.heap.size = gx at HX3 ⊢
  refine hid ?_
  rename_i K2 hK2
  have HK2 := hid hK2
  clear hK2
  go_wp2
  apply HK2.out
  clear HK2 K2
  apply wp_seq_k
  intro K3 hK3
  refine wp_cut_ret (fun a a' w' => w3 = w' ∧ a' = ⟨((a.tmps.toList.take 95 ++ (a'.tmps.toList.drop 95).take 4 ++ a.tmps.toList.drop 99).toArray).setIfInBounds 15 (.int .u64 (S : Int)), a.defers⟩ ∧ ((a'.tmps.toList.drop 95).take 4).length = 4) ?_ ?_
  ·have x5 := HX3.out.at 5
   by_cases hs0 : sn = 0
   ·have e := HnB.out.1 hs0
    have d1 : ((sn : Int) == 0) = true := by simp [hs0]
    subst e
    clear hs0 HnB HFin HL2' HL3' HO'
    go_wp2
    exact ⟨by first | trivial | rfl, rfl, rfl⟩
   ·have e := HnB.out.2 hs0
    have d1 : ((sn : Int) == 0) = false := by simp [hs0]
    subst e
    clear hs0 HnB HFin HL2' HL3' HO'
    go_wp2
    exact ⟨by first | trivial | rfl, rfl, rfl⟩
  rintro a' w' ⟨rfl, ha, hl⟩
  generalize (a'.tmps.toList.drop 95).take 4 = vs at ha hl
  obtain ⟨p95, p96, p97, p98, rfl⟩ := lst4 hl
  subst ha
  clear hl
  apply hK3
  clear hK3
  simp only [List.take_succ_cons, List.take_zero, List.drop_succ_cons, List.drop_zero, List.cons_append, List.nil_append, List.setIfInBounds_toArray, List.set_cons_succ, List.set_cons_zero]
  clear HX3
  have hSb : S < 18446744073709551616 := by
   by_cases hs0 : sn = 0
   ·rw [← HnB.out.1 hs0]; exact hsz
   ·rw [← HnB.out.2 hs0]; omega
  clear HnB
  by_cases hbad : S = 0 ∨ 65 < S
  ·have HPT := hid (HL2'.out HFit.out hbad)
   clear HL2' HL3' HO' HFin HFit
   rcases hbad with h1 | h1
   ·have d1 : ((S : Int) == 0) = true := by simp [h1]
    clear h1
    have f0 := HP3.out.f.at 0
    have f1 := HP3.out.f.at 1
    go_wp2_with fail
    clear f0 f1
    refine (where_sh wide big _).mono ?_
    rintro e wl ⟨rfl, hg⟩
    have HPl := hid (HP3.out.grow hg)
    clear hg
    go_wp2_with (refine wpList_store_row rfl 32 (.tmp 2) (.tmp 105) rfl z #[.bool false, .bool false, .int .u8 0, .int .u8 0, .int .u16 0, .int .u16 0, .int .u32 0, .int .u64 0, .slice none 0 0, .slice none 0 0, .int .i64 0] rfl rfl _ _ HPl.out.z (by kernel_rfl) rfl (by simp [Value.oneCell']) ?_)
    exact rparse_no (by rfl) (by rfl) (by rfl) HPl.out.z HPT.out HPl.out.g HA.out.wz
   ·have d1 : ((S : Int) == 0) = false := by simp; omega
    have d2 : decide ((65 : Int) < (S : Int)) = true := decide_eq_true (by omega)
    have d2' : decide (65 < S) = true := decide_eq_true h1
    clear h1
    have f0 := HP3.out.f.at 0
    have f1 := HP3.out.f.at 1
    go_wp2_with fail
    clear f0 f1
    refine (where_sh wide big _).mono ?_
    rintro e wl ⟨rfl, hg⟩
    have HPl := hid (HP3.out.grow hg)
    clear hg
    go_wp2_with (refine wpList_store_row rfl 32 (.tmp 2) (.tmp 105) rfl z #[.bool false, .bool false, .int .u8 0, .int .u8 0, .int .u16 0, .int .u16 0, .int .u32 0, .int .u64 0, .slice none 0 0, .slice none 0 0, .int .i64 0] rfl rfl _ _ HPl.out.z (by kernel_rfl) rfl (by simp [Value.oneCell']) ?_)
    exact rparse_no (by rfl) (by rfl) (by rfl) HPl.out.z HPT.out HPl.out.g HA.out.wz
  have d1 : ((S : Int) == 0) = false := by simp; omega
  have d2 : decide ((65 : Int) < (S : Int)) = false := decide_eq_false (by omega)
  have d2' : decide (65 < S) = false := decide_eq_false (by omega)
  have HL3'' := hid (HL3'.out HFit.out hbad)
  have HO'' := hid (HO'.out HFit.out hbad)
  obtain ⟨q, hq⟩ : ∃ q, q = S * z3 := ⟨_, rfl⟩
  have hq1 : q ≤ 10000 := by rw [hq]; exact Nat.le_trans (Nat.mul_le_mul (show S ≤ 65 by omega) hz3) (by decide)
  have e1 : IntKind.u64.wrap (z3 : Int) = (z3 : Int) := by rw [IntKind.wrap_u64]; omega
  have e2 : IntKind.u64.wrap ((S : Int) * (z3 : Int)) = (q : Int) := by
   rw [show (S : Int) * (z3 : Int) = (q : Int) by rw [hq]; push_cast; rfl, IntKind.wrap_u64]; omega
  rw [← hq] at HL3'' HO''
  have HWi := hid (refWithin_any (sh : Int) (q : Int) (n : Int) w3 (by omega) (by omega) (by omega))
  have HEq : Hid (wthn (sh : Int) (q : Int) (n : Int) = decide (sh + q ≤ n)) := hid (by unfold wthn; rw [Bool.eq_iff_iff, decide_eq_true_iff, decide_eq_true_iff]; omega)
  have v8 := HP3.out.h.at 8
  clear hbad hq hq1 HL2' HL3' HO' HFit
  go_wp2_with fail
  clear v8 e1 e2 d1 d2 d2'
  refine HWi.out.mono ?_
  rintro e w4 ⟨rfl, rfl⟩
  rw [HEq.out]
  clear HEq HWi
  by_cases hin : sh + q ≤ n
  ·have HO3 := hid (HO''.out hin)
   rw [decide_eq_true hin]
   clear hin HO'' HL3''
   go_wp2
   apply HK.out
   exact HFin.out _ _ ⟨rfl, rfl, rfl, rfl, rfl, rfl, rfl, rfl, rfl, rfl, rfl⟩ rfl HP3.out HO3.out
  ·have HPT := hid (HL3''.out hin)
   rw [decide_eq_false hin]
   clear hin HO'' HL3'' HFin
   have f0 := HP3.out.f.at 0
   have f1 := HP3.out.f.at 1
   go_wp2_with fail
   clear f0 f1
   refine (where_sh wide big _).mono ?_
   rintro e wl ⟨rfl, hg⟩
   have HPl := hid (HP3.out.grow hg)
   clear hg
   go_wp2_with (refine wpList_store_row rfl 32 (.tmp 2) (.tmp 118) rfl z #[.bool false, .bool false, .int .u8 0, .int .u8 0, .int .u16 0, .int .u16 0, .int .u32 0, .int .u64 0, .slice none 0 0, .slice none 0 0, .int .i64 0] rfl rfl _ _ HPl.out.z (by kernel_rfl) rfl (by simp [Value.oneCell']) ?_)
   exact rparse_no (by rfl) (by rfl) (by rfl) HPl.out.z HPT.out HPl.out.g HA.out.wz
set_option maxRecDepth 100000
set_option linter.unusedVariables false
set_option maxHeartbeats 20000000 in
theorem rp_2 (l : List UInt8) (A : Option Addr) (n c : Nat) (w : World) (hr : RB w w.heap.size A n c l) (hle : l.length ≤ 65536) (hT : HTold l 0 0 (hdOf l).V)
  (H : ∀ a W, I16 l A n c w a W → (sufOf 16 (bodyOf Tryz.f12)).wp Tryz.prog (bodyPost Tryz.prog Tryz.f12 (RParseR l w)) a W) :
  ∀ a W, I11 l A n c w a W → (sufOf 11 (bodyOf Tryz.f12)).wp Tryz.prog (bodyPost Tryz.prog Tryz.f12 (RParseR l w)) a W := by
 rintro a W ⟨z, h, f, m, s, base, hf, ha, hb, h15, hs0, hs1⟩
 obtain ⟨tv, rfl⟩ := rp_frame a hf.size hf.defers
 have hv0 : tv 0 = .slice A n c := hf.t0
 have hv2 : tv 2 = .pointer (some ⟨z, 0, none⟩) := hf.t2
 have hv5 : tv 5 = .pointer (some ⟨h, 0, none⟩) := hf.t5
 have hv8 : tv 8 = .pointer (some ⟨f, 0, none⟩) := hf.t8
 have hv9 : tv 9 = .int .u64 (n : Int) := hf.t9
 have hv11 : tv 11 = .int .i64 (pSize (lWide l) : Int) := hf.t11
 have hv12 : tv 12 = .int .i64 (sSize (lWide l) : Int) := hf.t12
 have hv13 : tv 13 = .pointer (some ⟨m, 0, none⟩) := hf.t13
 have hv14 : tv 14 = .pointer (some ⟨s, 0, none⟩) := hf.t14
 replace h15 : tv 15 = .int .u64 (nS l : Int) := h15
 have hv15 := h15
 clear h15
 rw [hv0, hv2, hv5, hv8, hv9, hv11, hv12, hv13, hv14, hv15]
 clear hv0 hv2 hv5 hv8 hv9 hv11 hv12 hv13 hv14 hv15
 clear hf
 have hn := hr.len
 have hcp := hr.cap
 have hmx := hr.max
 unfold maxLen at hmx
 have HA := hid ha
 clear ha
 have hok := hdOf_ok l
 have fok := fst_ok l
 have HL5 : Hid ((hdOf l).pn = 65535 ∧ (hdOf l).sh = 0 → PTold l 4 (oPn (lWide l)) mdN) := hid fun h1 => pt_cnt hle hT (cnt_pg hs1 hs0 (by unfold pgE; rw [if_pos h1]) (by decide)) (by decide)
 have HL6 : Hid (¬ ((hdOf l).pn = 65535 ∧ (hdOf l).sh = 0) → 16 < nP l → PTold l 8 (oPn (lWide l)) mdN) := hid fun h1 h2 => pt_cnt hle hT (cnt_pg hs1 hs0 (by unfold pgE; rw [if_neg h1, if_pos h2]) (by decide)) (by decide)
 have HL7 : Hid (¬ ((hdOf l).pn = 65535 ∧ (hdOf l).sh = 0) → ¬ 16 < nP l → nP l ≠ 0 → ¬ (hdOf l).ph + nP l * pSize (lWide l) ≤ n → PTold l 5 (oPh (lWide l)) mdN) := hid fun h1 h2 h3 h4 => pt_cnt hle hT (cnt_pg hs1 hs0 (by
  have hz : 0 < pSize (lWide l) := by cases lWide l <;> decide
  have hm : nP l * pSize (lWide l) ≠ 0 := Nat.ne_of_gt (Nat.mul_pos (by omega) hz)
  unfold pgE; rw [if_neg h1, if_neg h2, inB_iff, if_neg (by rw [decide_eq_true_iff, ← hn]; omega)]) (by decide)) (by decide)
 have HO : Hid (¬ ((hdOf l).pn = 65535 ∧ (hdOf l).sh = 0) → ¬ 16 < nP l → (nP l = 0 ∨ (hdOf l).ph + nP l * pSize (lWide l) ≤ n) → (pgE l).1 = 0) := hid fun h1 h2 h3 => by
  unfold pgE; rw [if_neg h1, if_neg h2, inB_iff, if_pos (by
   rw [decide_eq_true_iff, ← hn]
   rcases h3 with h3 | h3
   ·exact .inl (by rw [h3, Nat.zero_mul])
   ·exact .inr h3)]
 have HnP : Hid (((hdOf l).pn = 65535 → (fst_ l).inf = nP l) ∧ ((hdOf l).pn ≠ 65535 → (hdOf l).pn = nP l)) := hid ⟨fun h1 => by unfold nP; rw [if_pos h1], fun h1 => by unfold nP; rw [if_neg h1]⟩
 have HFin : Hid (∀ a W', RpF A n c z h f m s (pSize (lWide l)) (sSize (lWide l)) a → a.tmps.getD 15 undef = .int .u64 (nS l : Int) → a.tmps.getD 19 undef = .int .u64 (nP l : Int) → RPB w W' z h f m s (hdOf l).C #[.bool (lWide l), .bool (lBig l)] (hdM l (.slice none 0 0) (.slice none 0 0) 0) (fst_ l).C → (pgE l).1 = 0 →
   (sufOf 16 (bodyOf Tryz.f12)).wp Tryz.prog (bodyPost Tryz.prog Tryz.f12 (RParseR l w)) a W') := hid fun a W' e1 e2 e3 e4 e5 => H a W' ⟨z, h, f, m, s, base, e1, HA.out, e4, e2, e3, hs0, hs1, e5⟩
 have hz2 : pSize (lWide l) ≤ 64 := by cases lWide l <;> decide
 have hP3 := hok.ph
 have hpn := hok.pn
 have hinf := fok.inf
 obtain ⟨y2, y3, y4, y5, y6, y9, hC⟩ : ∃ y2 y3 y4 y5 y6 y9 : Value, (hdOf l).C = #[.bool (lWide l), .bool (lBig l), y2, y3, y4, y5, y6, .int .u64 ((hdOf l).ph : Int), .int .u64 ((hdOf l).sh : Int), y9, .int .u16 ((hdOf l).pn : Int), .int .u16 ((hdOf l).sn : Int), .int .u16 ((hdOf l).st : Int)] := ⟨_, _, _, _, _, _, rfl⟩
 rw [hC] at HFin hb
 clear hC
 obtain ⟨MC, hMC⟩ : ∃ x, hdM l (.slice none 0 0) (.slice none 0 0) 0 = x := ⟨_, rfl⟩
 rw [hMC] at HFin hb
 clear hMC
 clear H hr hle hT hn hok fok hs0 hs1
 generalize (hdOf l).ph = ph at *
 generalize (hdOf l).sh = sh at *
 generalize (hdOf l).pn = pn at *
 generalize (hdOf l).sn = sn at *
 generalize (hdOf l).st = st at *
 generalize pSize (lWide l) = z2 at *
 generalize sSize (lWide l) = z3 at *
 generalize lWide l = wide at *
 generalize lBig l = big at *
 generalize nS l = S at *
 generalize nP l = P at *
 obtain ⟨u0, u1, u2, u3, u4, u5, u6, u8, u9, inf, hF, hfi⟩ : ∃ (u0 u1 u2 u3 u4 u5 u6 u8 u9 : Value) (inf : Nat), (fst_ l).C = #[u0, u1, u2, u3, u4, u5, u6, .int .u32 (inf : Int), u8, u9] ∧ (fst_ l).inf = inf := ⟨_, _, _, _, _, _, _, _, _, _, rfl, rfl⟩
 rw [hfi] at HnP hinf
 rw [hF] at HFin hb
 clear hF hfi
 have HP := hid hb
 clear hb
 conv => arg 2; whnf
 apply wp_seq_k
 intro K hK
 have HK := hid hK
 clear hK
 have v10 := HP.out.h.at 10
 have e1 : IntKind.u64.wrap (pn : Int) = (pn : Int) := by rw [IntKind.wrap_u64]; omega
 go_wp2
 clear v10 e1
 apply HK.out
 clear HK
 clear K
 by_cases hno : pn = 65535 ∧ sh = 0
 ·have HPT := hid (HL5.out hno)
  have d1 : ((pn : Int) == 65535) = true := by simp; omega
  have d2 : ((sh : Int) == 0) = true := by simp; omega
  have v8 := HP.out.h.at 8
  clear hno HL5 HL6 HL7 HO HnP HFin
  have f0 := HP.out.f.at 0
  have f1 := HP.out.f.at 1
  go_wp2_with fail
  clear f0 f1
  refine (where_pn wide big _).mono ?_
  rintro e wl ⟨rfl, hg⟩
  have HPl := hid (HP.out.grow hg)
  clear hg
  go_wp2_with (refine wpList_store_row rfl 32 (.tmp 2) (.tmp 134) rfl z #[.bool false, .bool false, .int .u8 0, .int .u8 0, .int .u16 0, .int .u16 0, .int .u32 0, .int .u64 0, .slice none 0 0, .slice none 0 0, .int .i64 0] rfl rfl _ _ HPl.out.z (by kernel_rfl) rfl (by simp [Value.oneCell']) ?_)
  exact rparse_no (by rfl) (by rfl) (by rfl) HPl.out.z HPT.out HPl.out.g HA.out.wz
 have HL6' := hid (HL6.out hno)
 have HL7' := hid (HL7.out hno)
 have HO' := hid (HO.out hno)
 have HNo := hid hno
 clear hno HL5 HL6 HL7 HO
 have hPb : P < 4294967296 := by
  by_cases hp : pn = 65535
  ·rw [← HnP.out.1 hp]; exact hinf
  ·rw [← HnP.out.2 hp]; omega
 apply wp_seq_k
 intro K hK
 refine wp_cut_ret (fun a a' w' => W = w' ∧ a' = ⟨((a.tmps.toList.take 129 ++ (a'.tmps.toList.drop 129).take 11 ++ a.tmps.toList.drop 140).toArray).setIfInBounds 19 (.int .u64 (P : Int)), a.defers⟩ ∧ ((a'.tmps.toList.drop 129).take 11).length = 11) ?_ ?_
 ·have v8 := HP.out.h.at 8
  have w7 := HP.out.s.at 7
  by_cases hp : pn = 65535
  ·have e := HnP.out.1 hp
   have h0 : sh ≠ 0 := fun h0 => HNo.out ⟨hp, h0⟩
   have d1 : ((pn : Int) == 65535) = true := by simp; omega
   have d2 : ((sh : Int) == 0) = false := by simp; omega
   subst e
   have e1 : IntKind.u64.wrap (inf : Int) = (inf : Int) := by rw [IntKind.wrap_u64]; omega
   clear hp h0 HnP HFin HL6' HL7' HO' HNo
   go_wp2
   exact ⟨by first | trivial | rfl, rfl, rfl⟩
  ·have e := HnP.out.2 hp
   have d1 : ((pn : Int) == 65535) = false := by simp; omega
   subst e
   clear hp HnP HFin HL6' HL7' HO' HNo
   go_wp2
   exact ⟨by first | trivial | rfl, rfl, rfl⟩
 rintro a' w' ⟨rfl, ha, hl⟩
 generalize (a'.tmps.toList.drop 129).take 11 = vs at ha hl
 obtain ⟨p129, p130, p131, p132, p133, p134, p135, p136, p137, p138, p139, rfl⟩ := lst11 hl
 subst ha
 clear hl
 apply hK
 clear hK
 simp only [List.take_succ_cons, List.take_zero, List.drop_succ_cons, List.drop_zero, List.cons_append, List.nil_append, List.setIfInBounds_toArray, List.set_cons_succ, List.set_cons_zero]
 clear HnP HNo
 apply wp_seq_k
 intro K hK
 have HK := hid hK
 clear hK
 by_cases h16 : 16 < P
 ·have HPT := hid (HL6'.out h16)
  have d1 : decide ((16 : Int) < (P : Int)) = true := decide_eq_true (by omega)
  have d1' : decide (16 < P) = true := decide_eq_true h16
  clear h16 HL6' HL7' HO' HFin
  have f0 := HP.out.f.at 0
  have f1 := HP.out.f.at 1
  go_wp2_with fail
  clear f0 f1
  refine (where_pn wide big _).mono ?_
  rintro e wl ⟨rfl, hg⟩
  have HPl := hid (HP.out.grow hg)
  clear hg
  go_wp2_with (refine wpList_store_row rfl 32 (.tmp 2) (.tmp 142) rfl z #[.bool false, .bool false, .int .u8 0, .int .u8 0, .int .u16 0, .int .u16 0, .int .u32 0, .int .u64 0, .slice none 0 0, .slice none 0 0, .int .i64 0] rfl rfl _ _ HPl.out.z (by kernel_rfl) rfl (by simp [Value.oneCell']) ?_)
  exact rparse_no (by rfl) (by rfl) (by rfl) HPl.out.z HPT.out HPl.out.g HA.out.wz
 have d1 : decide ((16 : Int) < (P : Int)) = false := decide_eq_false (by omega)
 have d1' : decide (16 < P) = false := decide_eq_false h16
 have HL7'' := hid (HL7'.out h16)
 have HO'' := hid (HO'.out h16)
 clear HL6' HL7' HO'
 go_wp2
 clear d1 d1'
 apply HK.out
 clear HK
 clear K
 apply wp_seq_k
 intro K hK
 have HK := hid hK
 clear hK
 obtain ⟨q, hq⟩ : ∃ q, q = P * z2 := ⟨_, rfl⟩
 have hq1 : q ≤ 10000 := by rw [hq]; exact Nat.le_trans (Nat.mul_le_mul (show P ≤ 16 by omega) hz2) (by decide)
 have e1 : IntKind.u64.wrap (z2 : Int) = (z2 : Int) := by rw [IntKind.wrap_u64]; omega
 have e2 : IntKind.u64.wrap ((P : Int) * (z2 : Int)) = (q : Int) := by
  rw [show (P : Int) * (z2 : Int) = (q : Int) by rw [hq]; push_cast; rfl, IntKind.wrap_u64]; omega
 rw [← hq] at HL7'' HO''
 have HWi := hid (refWithin_any (ph : Int) (q : Int) (n : Int) W (by omega) (by omega) (by omega))
 have HEq : Hid (wthn (ph : Int) (q : Int) (n : Int) = decide (ph + q ≤ n)) := hid (by unfold wthn; rw [Bool.eq_iff_iff, decide_eq_true_iff, decide_eq_true_iff]; omega)
 have v7 := HP.out.h.at 7
 clear hq hq1 h16
 go_wp2_with fail
 clear v7 e1 e2
 refine HWi.out.mono ?_
 rintro e w4 ⟨rfl, rfl⟩
 rw [HEq.out]
 clear HEq HWi
 obtain ⟨ok, hok⟩ : ∃ b, decide (ph + q ≤ n) = b := ⟨_, rfl⟩
 rw [hok]
 have HOk : Hid (decide (ph + q ≤ n) = ok) := hid hok
 clear hok
 go_wp2
 apply HK.out
 clear HK
 clear K
 apply wp_seq_k
 intro K hK
 have HK := hid hK
 clear hK
 by_cases hP0 : P = 0
 ·have HO3 := hid (HO''.out (.inl hP0))
  have d1 : decide ((0 : Int) < (P : Int)) = false := decide_eq_false (by omega)
  have d1' : decide (0 < P) = false := decide_eq_false (by omega)
  clear hP0 HO'' HL7'' HOk
  go_wp2
  apply HK.out
  exact HFin.out _ _ ⟨rfl, rfl, rfl, rfl, rfl, rfl, rfl, rfl, rfl, rfl, rfl⟩ rfl rfl HP.out HO3.out
 ·have d1 : decide ((0 : Int) < (P : Int)) = true := decide_eq_true (by omega)
  have d1' : decide (0 < P) = true := decide_eq_true (by omega)
  cases ok with
  | true =>
   have HO3 := hid (HO''.out (.inr (of_decide_eq_true HOk.out)))
   clear hP0 HO'' HL7'' HOk
   go_wp2
   apply HK.out
   exact HFin.out _ _ ⟨rfl, rfl, rfl, rfl, rfl, rfl, rfl, rfl, rfl, rfl, rfl⟩ rfl rfl HP.out HO3.out
  | false =>
   have HPT := hid (HL7''.out hP0 (of_decide_eq_false HOk.out))
   clear hP0 HO'' HL7'' HOk HFin
   have f0 := HP.out.f.at 0
   have f1 := HP.out.f.at 1
   go_wp2_with fail
   clear f0 f1
   refine (where_ph wide big _).mono ?_
   rintro e wl ⟨rfl, hg⟩
   have HPl := hid (HP.out.grow hg)
   clear hg
   go_wp2_with (refine wpList_store_row rfl 32 (.tmp 2) (.tmp 159) rfl z #[.bool false, .bool false, .int .u8 0, .int .u8 0, .int .u16 0, .int .u16 0, .int .u32 0, .int .u64 0, .slice none 0 0, .slice none 0 0, .int .i64 0] rfl rfl _ _ HPl.out.z (by kernel_rfl) rfl (by simp [Value.oneCell']) ?_)
   exact rparse_no (by rfl) (by rfl) (by rfl) HPl.out.z HPT.out HPl.out.g HA.out.wz
set_option maxRecDepth 100000
set_option linter.unusedVariables false
set_option maxHeartbeats 20000000 in
theorem rp_3 (l : List UInt8) (A : Option Addr) (n c : Nat) (w : World) (hr : RB w w.heap.size A n c l) (hle : l.length ≤ 65536) (hT : HTold l 0 0 (hdOf l).V)
  (H : ∀ a W, I18 l A n c w a W → (sufOf 18 (bodyOf Tryz.f12)).wp Tryz.prog (bodyPost Tryz.prog Tryz.f12 (RParseR l w)) a W) :
  ∀ a W, I16 l A n c w a W → (sufOf 16 (bodyOf Tryz.f12)).wp Tryz.prog (bodyPost Tryz.prog Tryz.f12 (RParseR l w)) a W := by
 rintro a W ⟨z, h, f, m, s, base, hf, ha, hb, h15, h19, hs0, hs1, hs2⟩
 obtain ⟨tv, rfl⟩ := rp_frame a hf.size hf.defers
 have hv0 : tv 0 = .slice A n c := hf.t0
 have hv2 : tv 2 = .pointer (some ⟨z, 0, none⟩) := hf.t2
 have hv5 : tv 5 = .pointer (some ⟨h, 0, none⟩) := hf.t5
 have hv8 : tv 8 = .pointer (some ⟨f, 0, none⟩) := hf.t8
 have hv9 : tv 9 = .int .u64 (n : Int) := hf.t9
 have hv11 : tv 11 = .int .i64 (pSize (lWide l) : Int) := hf.t11
 have hv12 : tv 12 = .int .i64 (sSize (lWide l) : Int) := hf.t12
 have hv13 : tv 13 = .pointer (some ⟨m, 0, none⟩) := hf.t13
 have hv14 : tv 14 = .pointer (some ⟨s, 0, none⟩) := hf.t14
 replace h15 : tv 15 = .int .u64 (nS l : Int) := h15
 have hv15 := h15
 clear h15
 replace h19 : tv 19 = .int .u64 (nP l : Int) := h19
 have hv19 := h19
 clear h19
 rw [hv0, hv2, hv5, hv8, hv9, hv11, hv12, hv13, hv14, hv15, hv19]
 clear hv0 hv2 hv5 hv8 hv9 hv11 hv12 hv13 hv14 hv15 hv19
 clear hf
 have hn := hr.len
 have hcp := hr.cap
 have hmx := hr.max
 unfold maxLen at hmx
 have HA := hid ha
 clear ha
 have hok := hdOf_ok l
 have fok := fst_ok l
 have HL8 : Hid ((hdOf l).st = 65535 ∧ (hdOf l).sh = 0 → PTold l 4 (oSt (lWide l)) mdN) := hid fun h1 => pt_cnt hle hT (cnt_st hs1 hs0 hs2 h1) (by decide)
 have HO : Hid (¬ ((hdOf l).st = 65535 ∧ (hdOf l).sh = 0) → (cntE l).1 = 0) := hid fun h1 => cnt_zero hs1 hs0 hs2 h1
 have HnI : Hid (((hdOf l).st = 65535 → (fst_ l).li = nI l) ∧ ((hdOf l).st ≠ 65535 → (hdOf l).st = nI l)) := hid ⟨fun h1 => by unfold nI; rw [if_pos h1], fun h1 => by unfold nI; rw [if_neg h1]⟩
 have HFin : Hid (∀ a W', RpF A n c z h f m s (pSize (lWide l)) (sSize (lWide l)) a → a.tmps.getD 15 undef = .int .u64 (nS l : Int) → a.tmps.getD 19 undef = .int .u64 (nP l : Int) → RPB w W' z h f m s (hdOf l).C #[.bool (lWide l), .bool (lBig l)] (hdM l (.slice none 0 0) (.slice none 0 0) (nI l : Int)) (fst_ l).C → (cntE l).1 = 0 →
   (sufOf 18 (bodyOf Tryz.f12)).wp Tryz.prog (bodyPost Tryz.prog Tryz.f12 (RParseR l w)) a W') := hid fun a W' e1 e2 e3 e4 e5 => H a W' ⟨z, h, f, m, s, base, e1, HA.out, e4, e2, e3, e5⟩
 have hst := hok.st
 have hli := fok.li
 obtain ⟨g0, g1, g2, g3, g4, g5, g6, g7, hMC⟩ : ∃ g0 g1 g2 g3 g4 g5 g6 g7 : Value, ∀ x, hdM l (.slice none 0 0) (.slice none 0 0) x = #[g0, g1, g2, g3, g4, g5, g6, g7, .slice none 0 0, .slice none 0 0, .int .i64 x] := ⟨_, _, _, _, _, _, _, _, fun _ => rfl⟩
 rw [hMC] at HFin hb
 clear hMC
 obtain ⟨y2, y3, y4, y5, y6, y9, hC⟩ : ∃ y2 y3 y4 y5 y6 y9 : Value, (hdOf l).C = #[.bool (lWide l), .bool (lBig l), y2, y3, y4, y5, y6, .int .u64 ((hdOf l).ph : Int), .int .u64 ((hdOf l).sh : Int), y9, .int .u16 ((hdOf l).pn : Int), .int .u16 ((hdOf l).sn : Int), .int .u16 ((hdOf l).st : Int)] := ⟨_, _, _, _, _, _, rfl⟩
 rw [hC] at HFin hb
 clear hC
 clear H hr hle hT hn hok fok hs0 hs1 hs2
 generalize (hdOf l).ph = ph at *
 generalize (hdOf l).sh = sh at *
 generalize (hdOf l).pn = pn at *
 generalize (hdOf l).sn = sn at *
 generalize (hdOf l).st = st at *
 generalize pSize (lWide l) = z2 at *
 generalize sSize (lWide l) = z3 at *
 generalize lWide l = wide at *
 generalize lBig l = big at *
 generalize nS l = S at *
 generalize nP l = P at *
 generalize nI l = I at *
 obtain ⟨u0, u1, u2, u3, u4, u5, u7, u8, u9, li, hF, hfi⟩ : ∃ (u0 u1 u2 u3 u4 u5 u7 u8 u9 : Value) (li : Nat), (fst_ l).C = #[u0, u1, u2, u3, u4, u5, .int .u32 (li : Int), u7, u8, u9] ∧ (fst_ l).li = li := ⟨_, _, _, _, _, _, _, _, _, _, rfl, rfl⟩
 rw [hfi] at HnI hli
 rw [hF] at HFin hb
 clear hF hfi
 have HP := hid hb
 clear hb
 conv => arg 2; whnf
 apply wp_seq_k
 intro K hK
 have HK := hid hK
 clear hK
 have v12 := HP.out.h.at 12
 have c10 := HP.out.m.at 10
 have s10 := HP.out.m.soft 10
 have e1 : IntKind.i64.wrap (st : Int) = (st : Int) := by rw [IntKind.wrap_i64]; omega
 go_wp2
 clear v12 c10 s10 e1
 have e9 := setCell_eq_setRow W m 10 _ 32 (0, 0) (.int .i64 (st : Int)) HP.out.m
 have HP2 : Hid (RPB w (W.setCell ⟨m, 10, none⟩ (.int .i64 (st : Int))) z h f m s _ _ #[g0, g1, g2, g3, g4, g5, g6, g7, .slice none 0 0, .slice none 0 0, .int .i64 (st : Int)] _) := hid (by rw [e9]; exact HP.out.setM HA.out _)
 clear e9 HP
 generalize W.setCell _ _ = W2 at HP2 ⊢
 apply HK.out
 clear HK
 clear K
 apply wp_seq_k
 intro K hK
 have HK := hid hK
 clear hK
 have v12 := HP2.out.h.at 12
 have v8 := HP2.out.h.at 8
 by_cases h1 : st = 65535
 ·have d1 : ((st : Int) == 65535) = true := by simp; omega
  by_cases h0 : sh = 0
  ·have HPT := hid (HL8.out ⟨h1, h0⟩)
   have d2 : ((sh : Int) == 0) = true := by simp; omega
   clear h1 h0 HL8 HO HnI HFin
   have f0 := HP2.out.f.at 0
   have f1 := HP2.out.f.at 1
   go_wp2_with fail
   clear f0 f1
   refine (where_st wide big _).mono ?_
   rintro e wl ⟨rfl, hg⟩
   have HPl := hid (HP2.out.grow hg)
   clear hg
   go_wp2_with (refine wpList_store_row rfl 32 (.tmp 2) (.tmp 172) rfl z #[.bool false, .bool false, .int .u8 0, .int .u8 0, .int .u16 0, .int .u16 0, .int .u32 0, .int .u64 0, .slice none 0 0, .slice none 0 0, .int .i64 0] rfl rfl _ _ HPl.out.z (by kernel_rfl) rfl (by simp [Value.oneCell']) ?_)
   exact rparse_no (by rfl) (by rfl) (by rfl) HPl.out.z HPT.out HPl.out.g HA.out.wz
  ·have HO2 := hid (HO.out (fun h => h0 h.2))
   have d2 : ((sh : Int) == 0) = false := by simp; omega
   have e := HnI.out.1 h1
   subst e
   have w6 := HP2.out.s.at 6
   have c10 := HP2.out.m.at 10
   have s10 := HP2.out.m.soft 10
   have e1 : IntKind.i64.wrap (li : Int) = (li : Int) := by rw [IntKind.wrap_i64]; omega
   clear h1 h0 HL8 HO HnI
   go_wp2
   clear v12 v8 w6 c10 s10 e1
   have e9 := setCell_eq_setRow W2 m 10 _ 32 (0, 0) (.int .i64 (li : Int)) HP2.out.m
   have HP3 : Hid (RPB w (W2.setCell ⟨m, 10, none⟩ (.int .i64 (li : Int))) z h f m s _ _ #[g0, g1, g2, g3, g4, g5, g6, g7, .slice none 0 0, .slice none 0 0, .int .i64 (li : Int)] _) := hid (by rw [e9]; exact HP2.out.setM HA.out _)
   clear e9 HP2
   generalize W2.setCell _ _ = W3 at HP3 ⊢
   apply HK.out
   exact HFin.out _ _ ⟨rfl, rfl, rfl, rfl, rfl, rfl, rfl, rfl, rfl, rfl, rfl⟩ rfl rfl HP3.out HO2.out
 ·have d1 : ((st : Int) == 65535) = false := by simp; omega
  have HO2 := hid (HO.out (fun h => h1 h.1))
  have e := HnI.out.2 h1
  subst e
  clear h1 HL8 HO HnI
  go_wp2
  apply HK.out
  exact HFin.out _ _ ⟨rfl, rfl, rfl, rfl, rfl, rfl, rfl, rfl, rfl, rfl, rfl⟩ rfl rfl HP2.out HO2.out
end Go.Proofs.YtlccbekalccahaaGreatDoor
