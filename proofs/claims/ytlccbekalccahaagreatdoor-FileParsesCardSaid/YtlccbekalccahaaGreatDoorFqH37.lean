/-
  Several texts in one: The walk of the document's own Parse, part E; The walk of the document's own Parse, part F.
-/
import Derived.Test.YtlccbekalccahaaGreatDoorFqH35
import Derived.Test.YtlccbekalccahaaGreatDoorFqH25
namespace Go.Proofs.YtlccbekalccahaaGreatDoor
open Go.Lib (hid)
open Go.RowKit
set_option maxRecDepth 100000
set_option linter.unusedVariables false
set_option maxHeartbeats 20000000 in
theorem rp_4 (l : List UInt8) (A : Option Addr) (n c : Nat) (w : World) (hr : RB w w.heap.size A n c l) (hle : l.length ≤ 65536) (hT : HTold l 0 0 (hdOf l).V)
  (H : ∀ a W, I20 l A n c w a W → (sufOf 20 (bodyOf Tryz.f12)).wp Tryz.prog (bodyPost Tryz.prog Tryz.f12 (RParseR l w)) a W) :
  ∀ a W, I18 l A n c w a W → (sufOf 18 (bodyOf Tryz.f12)).wp Tryz.prog (bodyPost Tryz.prog Tryz.f12 (RParseR l w)) a W := by
 rintro a W ⟨z, h, f, m, s, base, hf, ha, hb, h15, h19, hc0⟩
 obtain ⟨tv, rfl⟩ := rp_frame a hf.size hf.defers
 have hv0 : tv 0 = .slice A n c := hf.t0
 have hv2 : tv 2 = .pointer (some ⟨z, 0, none⟩) := hf.t2
 have hv5 : tv 5 = .pointer (some ⟨h, 0, none⟩) := hf.t5
 have hv8 : tv 8 = .pointer (some ⟨f, 0, none⟩) := hf.t8
 have hv9 : tv 9 = .int .u64 (n : Int) := hf.t9
 have hv11 : tv 11 = .int .i64 (pSize (lWide l) : Int) := hf.t11
 have hv12 : tv 12 = .int .i64 (sSize (lWide l) : Int) := hf.t12
 have hv13 : tv 13 = .pointer (some ⟨m, 0, none⟩) := hf.t13
 have hv14 : tv 14 = .pointer (some ⟨s, 0, none⟩) := hf.t14
 replace h15 : tv 15 = .int .u64 (nS l : Int) := h15
 have hv15 := h15
 clear h15
 replace h19 : tv 19 = .int .u64 (nP l : Int) := h19
 have hv19 := h19
 clear h19
 rw [hv0, hv2, hv5, hv8, hv9, hv11, hv12, hv13, hv14, hv15, hv19]
 clear hv0 hv2 hv5 hv8 hv9 hv11 hv12 hv13 hv14 hv15 hv19
 clear hf
 have hn := hr.len
 have hcp := hr.cap
 have hmx := hr.max
 unfold maxLen at hmx
 have HA := hid ha
 clear ha
 have hok := hdOf_ok l
 have fok := fst_ok l
 have hPg : nP l ≤ 16 := (pg_ok (cnt_ok hc0).2.1).1
 have HPG : Hid (∀ k, k < nP l → ∀ W, Grow w W → Calls Tryz.prog 34 #[.slice A n c, .int .u64 (pAt l k : Nat), .agg #[.bool (lWide l), .bool (lBig l)]] W fun e w' => e = .returned (.tuple #[(pgs l k).V, .bool true]) ∧ Grow W w') := hid fun k hk W hg => by
  have hin := pAt_in hc0 hk
  refine (rGetProg_any A n c l (pAt l k) (lWide l) (lBig l) W (hr.grow hg) (by omega)).mono fun e w' h => ?_
  rcases h with ⟨_, h1, h2⟩ | ⟨h0, _⟩
  ·exact ⟨h1, h2⟩
  ·omega
 have HPB : Hid (∀ k, k < nP l → pAt l k ≤ 65536) := hid fun k hk => by have := pAt_in hc0 hk; omega
 have HPA : Hid (∀ k, (hdOf l).ph + k * pSize (lWide l) = pAt l k) := hid fun k => rfl
 have HLp : Hid (∀ k, k < nP l → (∀ j, j < k → pBad l j = 0) → inB n (pgs l k).off (pgs l k).fs = false → PTold l 5 (pAt l k) mdN) := hid fun k h1 h2 h3 => pt_tab hle hT hc0 (tab_p h1 h2 (by rwa [hn] at h3)) (by decide)
 have HPE : Hid (∀ k, inB n (pgs l k).off (pgs l k).fs = true → pBad l k = 0) := hid fun k h => by unfold pBad; rw [← hn, if_pos h]
 have HPc := hid (pgR_succ l)
 have HPk : Hid (∀ k, (pgs l k).Ok) := hid fun k => pgOf_ok _ _ _ _
 have HR0 : Hid (pgR l 0 = []) := hid rfl
 have HFin : Hid (∀ a W' A1 c1, RpF A n c z h f m s (pSize (lWide l)) (sSize (lWide l)) a → a.tmps.getD 15 undef = .int .u64 (nS l : Int) → a.tmps.getD 21 undef = .slice A1 (nP l) c1 → RPB w W' z h f m s (hdOf l).C #[.bool (lWide l), .bool (lBig l)] (hdM l (.slice none 0 0) (.slice none 0 0) (nI l : Int)) (fst_ l).C → ZO W' base 76 8 A1 (nP l) c1 (pgR l (nP l)) → (∀ j, j < nP l → pBad l j = 0) →
   (sufOf 20 (bodyOf Tryz.f12)).wp Tryz.prog (bodyPost Tryz.prog Tryz.f12 (RParseR l w)) a W') := hid fun a W' A1 c1 e1 e2 e3 e4 e5 e6 => H a W' ⟨z, h, f, m, s, base, A1, c1, e1, HA.out, e4, e2, hc0, e3, e5, e6⟩
 have hz2 : pSize (lWide l) ≤ 64 := by cases lWide l <;> decide
 obtain ⟨MC, hMC⟩ : ∃ x, hdM l (.slice none 0 0) (.slice none 0 0) (nI l : Int) = x := ⟨_, rfl⟩
 rw [hMC] at HFin hb
 clear hMC
 obtain ⟨FC, hFC⟩ : ∃ x, (fst_ l).C = x := ⟨_, rfl⟩
 rw [hFC] at HFin hb
 clear hFC
 obtain ⟨y2, y3, y4, y5, y6, y9, hC⟩ : ∃ y2 y3 y4 y5 y6 y9 : Value, (hdOf l).C = #[.bool (lWide l), .bool (lBig l), y2, y3, y4, y5, y6, .int .u64 ((hdOf l).ph : Int), .int .u64 ((hdOf l).sh : Int), y9, .int .u16 ((hdOf l).pn : Int), .int .u16 ((hdOf l).sn : Int), .int .u16 ((hdOf l).st : Int)] := ⟨_, _, _, _, _, _, rfl⟩
 rw [hC] at HFin hb
 clear hC
 clear H hr hle hT hn hok fok hc0
 generalize (hdOf l).ph = ph at *
 generalize (hdOf l).sh = sh at *
 generalize (hdOf l).pn = pn at *
 generalize (hdOf l).sn = sn at *
 generalize (hdOf l).st = st at *
 generalize pSize (lWide l) = z2 at *
 generalize sSize (lWide l) = z3 at *
 generalize lWide l = wide at *
 generalize lBig l = big at *
 generalize nS l = S at *
 generalize nP l = P at *
 generalize pgR l = PR at *
 generalize pBad l = pB at *
 generalize pAt l = pA at *
 generalize pgs l = pgF at *
 have HP := hid hb
 clear hb
 conv => arg 2; whnf
 apply wp_seq_k
 intro K hK
 have HK := hid hK
 clear hK
 go_wp2
 apply HK.out
 clear HK
 clear K
 apply wp_seq_k
 intro K hK
 have HK := hid hK
 clear hK
 have z1 : IntKind.i64.wrap (P : Int) = (P : Int) := by rw [IntKind.wrap_i64]; omega
 have HPl : Hid (P ≤ 16) := hid hPg
 clear hPg
 go_wp2_with fail
 have HO : Hid (ZO W base 76 8 none 0 0 (PR 0)) := hid (by rw [HR0.out]; exact ZO.nil)
 go_loopw [21, 22] (fun x i wr => ∃ (k : Nat) (A1 : Option Addr) (c1 : Nat), k ≤ P ∧ i = .int .i64 k ∧ x = .slice A1 k c1 ∧ RPB w wr z h f m s #[.bool wide, .bool big, y2, y3, y4, y5, y6, .int .u64 (ph : Int), .int .u64 (sh : Int), y9, .int .u16 (pn : Int), .int .u16 (sn : Int), .int .u16 (st : Int)] #[.bool wide, .bool big] MC FC ∧ ZO wr base 76 8 A1 k c1 (PR k) ∧ Hid (∀ j, j < k → pB j = 0)) (fun _ i _ => P - (intOf i).toNat)
 case atStart => exact ⟨0, none, 0, by omega, rfl, rfl, HP.out, HO.out, hid fun j hj => by omega⟩
 case round =>
  obtain ⟨k, A1, c1, hk, rfl, rfl, hb, ho, HB⟩ := hrel
  have HP1 := hid hb
  have HO1 := hid ho
  clear hb ho HO HP
  by_cases hlt : k < P
  ·have HLt := hid hlt
   have HK16 : Hid (k ≤ 16) := hid (by have := HPl.out; omega)
   have hpA : pA k ≤ 65536 := HPB.out k hlt
   have hPA := HPA.out k
   obtain ⟨q, hq⟩ : ∃ q, q = k * z2 := ⟨_, rfl⟩
   rw [← hq] at hPA
   have hq1 : q ≤ 10000 := by rw [hq]; exact Nat.le_trans (Nat.mul_le_mul (show k ≤ 16 by have := HPl.out; omega) hz2) (by decide)
   have e1 : IntKind.i64.wrap ((k : Int) * (z2 : Int)) = (q : Int) := by
    rw [show (k : Int) * (z2 : Int) = (q : Int) by rw [hq]; push_cast; rfl, IntKind.wrap_i64]; omega
   have e2 : IntKind.u64.wrap (q : Int) = (q : Int) := by rw [IntKind.wrap_u64]; omega
   have e3 : IntKind.u64.wrap ((ph : Int) + (q : Int)) = (pA k : Int) := by rw [IntKind.wrap_u64]; omega
   have HPGk := hid (fun W hg => HPG.out k hlt W hg)
   have HLpk := hid (HLp.out k hlt HB.out)
   have HPEk := hid (HPE.out k)
   have HPck := hid (HPc.out k)
   have HPkk := hid (HPk.out k)
   have HPA1 : Hid (pA k ≤ 65536) := hid hpA
   have d1 : decide ((k : Int) < (P : Int)) = true := decide_eq_true (by omega)
   have d1' : decide (k < P) = true := decide_eq_true hlt
   clear hk hlt hpA hPA hq hq1
   generalize pA k = at1 at *
   have v7 := HP1.out.h.at 7
   have f0 := HP1.out.f.at 0
   have f1 := HP1.out.f.at 1
   go_wp2_with fail
   clear f0 f1 v7 e1 e2 e3 d1 d1'
   refine (HPGk.out _ HP1.out.g).mono ?_
   rintro e w4 ⟨rfl, hg⟩
   have HP4 := hid (HP1.out.grow hg)
   have HO4 := hid (HO1.out.keep hg)
   clear hg HP1 HO1 HPGk
   generalize pgF k = p at HLpk HPEk HPck HPkk ⊢
   obtain ⟨ty, fl, off, va, pa, fs, ms, al⟩ := p
   have ho1 := HPkk.out.off
   have ho2 := HPkk.out.fs
   unfold Pg.C at HPck
   unfold Pg.V Pg.C
   simp only [] at HLpk HPEk HPck ho1 ho2
   have HWi := hid (fun W => refWithin_any (off : Int) (fs : Int) (n : Int) W (by omega) (by omega) (by omega))
   have HEq : Hid (wthn (off : Int) (fs : Int) (n : Int) = decide (off + fs ≤ n)) := hid (by unfold wthn; rw [Bool.eq_iff_iff, decide_eq_true_iff, decide_eq_true_iff]; omega)
   have HIn : Hid (inB n off fs = decide (fs = 0 ∨ off + fs ≤ n)) := hid inB_iff
   clear HPkk ho1 ho2
   go_wp2_with fail
   generalize hW : World.alloc _ _ = W5
   obtain ⟨b5, hg⟩ := blk1 hW
   clear hW
   have HB5 := hid b5
   have HP5 := hid (HP4.out.grow hg)
   have HO5 := hid (HO4.out.keep hg)
   clear b5 hg HP4 HO4
   generalize w4.heap.size = g5 at HB5 ⊢
   refine (HWi.out _).mono ?_
   rintro e w5x ⟨rfl, rfl⟩
   rw [HEq.out]
   clear HWi HEq
   rename_i K5 hK5 Kc hKc
   have HK5 := hid hK5
   clear hK5
   go_wp2
   apply HK5.out
   clear HK5 K5
   apply wp_seq_k
   intro K6 hK6
   have q5 := HB5.out.at 5
   by_cases hin : fs = 0 ∨ off + fs ≤ n
   rotate_left
   ·have HPT := hid (HLpk.out (by rw [HIn.out]; exact decide_eq_false hin))
    have d2 : decide ((0 : Int) < (fs : Int)) = true := decide_eq_true (by omega)
    have d2' : decide (0 < fs) = true := decide_eq_true (by omega)
    have e4 : IntKind.i64.wrap (at1 : Int) = (at1 : Int) := by rw [IntKind.wrap_i64]; have := HPA1.out; omega
    have d3 : decide (off + fs ≤ n) = false := decide_eq_false (by omega)
    rw [d3]
    clear hin d3 HPEk HPck HFin HLpk
    go_wp2_with (refine wpList_store_row rfl 32 (.tmp 2) (.tmp 212) rfl z #[.bool false, .bool false, .int .u8 0, .int .u8 0, .int .u16 0, .int .u16 0, .int .u32 0, .int .u64 0, .slice none 0 0, .slice none 0 0, .int .i64 0] rfl rfl _ _ HP5.out.z (by kernel_rfl) rfl (by simp [Value.oneCell']) ?_)
    exact rparse_no (by rfl) (by rfl) (by rfl) HP5.out.z HPT.out HP5.out.g HA.out.wz
   have HBn : Hid (pB k = 0) := hid (HPEk.out (by rw [HIn.out]; exact decide_eq_true hin))
   clear HLpk HPEk HIn
   refine wp_cut_ret (fun a a' w' => W5 = w' ∧ a' = ⟨((a.tmps.toList.take 205 ++ (a'.tmps.toList.drop 205).take 7 ++ a.tmps.toList.drop 212).toArray), a.defers⟩ ∧ ((a'.tmps.toList.drop 205).take 7).length = 7) ?_ ?_
   ·by_cases h0 : fs = 0
    ·have d2 : decide ((0 : Int) < (fs : Int)) = false := decide_eq_false (by omega)
     have d2' : decide (0 < fs) = false := decide_eq_false (by omega)
     clear h0 hin
     go_wp2
     exact ⟨by first | trivial | rfl, rfl, rfl⟩
    ·have d2 : decide ((0 : Int) < (fs : Int)) = true := decide_eq_true (by omega)
     have d2' : decide (0 < fs) = true := decide_eq_true (by omega)
     have d3 : decide (off + fs ≤ n) = true := decide_eq_true (by omega)
     rw [d3]
     clear h0 hin d3
     go_wp2
     exact ⟨by first | trivial | rfl, rfl, rfl⟩
   rintro a' w' ⟨rfl, ha, hl⟩
   generalize (a'.tmps.toList.drop 205).take 7 = vs at ha hl
   obtain ⟨p205, p206, p207, p208, p209, p210, p211, rfl⟩ := lst7 hl
   subst ha
   clear hl
   apply hK6
   clear hK6
   simp only [List.take_succ_cons, List.take_zero, List.drop_succ_cons, List.drop_zero, List.cons_append, List.nil_append]
   clear q5 hin
   obtain ⟨q0, q1, q2, q3, q4, q5, q6, q7⟩ := HB5.out.c8
   have HNu := hid (Blk.new W5 76 #[.int .u32 (ty : Int), .int .u32 (fl : Int), .int .u64 (off : Int), .int .u64 (va : Int), .int .u64 (pa : Int), .int .u64 (fs : Int), .int .u64 (ms : Int), .int .u64 (al : Int)])
   have hal := Grow.of_alloc W5 (.cells #[.int .u32 (ty : Int), .int .u32 (fl : Int), .int .u64 (off : Int), .int .u64 (va : Int), .int .u64 (pa : Int), .int .u64 (fs : Int), .int .u64 (ms : Int), .int .u64 (al : Int)] 76)
   have HOa := hid (HO5.out.keep hal)
   have HPa := hid (HP5.out.grow hal)
   have HBs := hid (HPa.out.base_le HA.out)
   clear hal
   go_wp2_with (at_builtin; refine wpList_appendZ (W5.alloc (.cells #[.int .u32 (ty : Int), .int .u32 (fl : Int), .int .u64 (off : Int), .int .u64 (va : Int), .int .u64 (pa : Int), .int .u64 (fs : Int), .int .u64 (ms : Int), .int .u64 (al : Int)] 76)) rfl (.tmp 215) (.tmp 217) 89 rfl base 76 pg0.V 8 56 Tryz.underlying89 (by kernel_rfl) rfl (by omega) A1 k c1 _ rfl HOa.out W5.heap.size _ _ rfl HNu.out rfl (by simp [Value.oneCell']) (by have := HK16.out; unfold maxLen; omega) (by have := HK16.out; omega) HBs.out ?_; intro A5 c5 w9 ho9 hg9 _; refine Hid.out ?_)
   clear q0 q1 q2 q3 q4 q5 q6 q7
   have HP9 := hid (HPa.out.by_ HA.out hg9 (fun k e => HOa.out.ge e))
   rw [← HPck.out] at ho9
   have HO9 := hid ho9
   clear ho9 hg9 HPa HOa HBs HNu HP5 HO5 HB5
   refine hid ?_
   have hk16 := HK16.out
   go_wp2
   go_roundw
   case rel =>
    exact ⟨k + 1, A5, c5, HLt.out, by go_num, rfl, HP9.out, HO9.out, hid fun j hj => by
     rcases Nat.lt_or_ge j k with h | h
     ·exact HB.out j h
     ·rw [show j = k by omega, HBn.out]⟩
   case measure => simp [intOf]; have := HLt.out; omega
  ·obtain rfl : P = k := by omega
   have d1 : decide ((P : Int) < (P : Int)) = false := by simp
   have d1' : decide (P < P) = false := by simp
   go_wp2
   apply HK.out
   exact HFin.out _ _ A1 c1 ⟨rfl, rfl, rfl, rfl, rfl, rfl, rfl, rfl, rfl, rfl, rfl⟩ rfl rfl HP1.out HO1.out HB.out
set_option maxRecDepth 100000
set_option linter.unusedVariables false
set_option maxHeartbeats 20000000 in
theorem rp_5 (l : List UInt8) (A : Option Addr) (n c : Nat) (w : World) (hr : RB w w.heap.size A n c l) (hle : l.length ≤ 65536) (hT : HTold l 0 0 (hdOf l).V)
  (H : ∀ a W, I21 l A n c w a W → (sufOf 21 (bodyOf Tryz.f12)).wp Tryz.prog (bodyPost Tryz.prog Tryz.f12 (RParseR l w)) a W) :
  ∀ a W, I20 l A n c w a W → (sufOf 20 (bodyOf Tryz.f12)).wp Tryz.prog (bodyPost Tryz.prog Tryz.f12 (RParseR l w)) a W := by
 rintro a W ⟨z, h, f, m, s, base, A1, c1, hf, ha, hb, h15, hc0, h21, hzo, hpb⟩
 obtain ⟨tv, rfl⟩ := rp_frame a hf.size hf.defers
 have hv0 : tv 0 = .slice A n c := hf.t0
 have hv2 : tv 2 = .pointer (some ⟨z, 0, none⟩) := hf.t2
 have hv5 : tv 5 = .pointer (some ⟨h, 0, none⟩) := hf.t5
 have hv8 : tv 8 = .pointer (some ⟨f, 0, none⟩) := hf.t8
 have hv9 : tv 9 = .int .u64 (n : Int) := hf.t9
 have hv11 : tv 11 = .int .i64 (pSize (lWide l) : Int) := hf.t11
 have hv12 : tv 12 = .int .i64 (sSize (lWide l) : Int) := hf.t12
 have hv13 : tv 13 = .pointer (some ⟨m, 0, none⟩) := hf.t13
 have hv14 : tv 14 = .pointer (some ⟨s, 0, none⟩) := hf.t14
 replace h15 : tv 15 = .int .u64 (nS l : Int) := h15
 have hv15 := h15
 clear h15
 replace h21 : tv 21 = .slice A1 (nP l) c1 := h21
 have hv21 := h21
 clear h21
 rw [hv0, hv2, hv5, hv8, hv9, hv11, hv12, hv13, hv14, hv15, hv21]
 clear hv0 hv2 hv5 hv8 hv9 hv11 hv12 hv13 hv14 hv15 hv21
 clear hf
 have hn := hr.len
 have hcp := hr.cap
 have hmx := hr.max
 unfold maxLen at hmx
 have HA := hid ha
 clear ha
 have hok := hdOf_ok l
 have fok := fst_ok l
 have hPg : nP l ≤ 16 := (pg_ok (cnt_ok hc0).2.1).1
 have HFd : Hid (∀ k, k < nP l → ∀ own : Bool, ((((pgs l k).ty : Nat) : Int) == 1) = own → ∀ W, Grow w W → ZS W W.heap.size 8 A1 (nP l) c1 (pgR l (nP l)) → Calls Tryz.prog 35 #[.slice A n c, .slice A1 (nP l) c1, .int .u64 ((pgs l k).off : Int), .int .u64 ((pgs l k).fs : Int), .bool own] W (PlaceR (pgPl l (pgs l k)) W)) := hid fun k hk own ho W hg hz => by
  have pok : (pgs l k).Ok := pgOf_ok _ _ _ _
  have hin : inB n (pgs l k).off (pgs l k).fs = true := by
   have h := hpb k hk
   unfold pBad at h
   rw [hn]
   split at h
   ·assumption
   ·omega
  have h := rFind_all l A n c A1 c1 (pgs l k).off (pgs l k).fs own W (hr.grow hg) hz hin (by omega) hPg pok.off pok.fs
  have e : pgPl l (pgs l k) = if own then ownPl l (pgs l k).off (pgs l k).fs else findPl l (pgs l k).off (pgs l k).fs := by
   unfold pgPl
   subst ho
   by_cases h1 : (pgs l k).ty = 1
   ·rw [if_pos h1, if_pos (by simp [h1])]
   ·rw [if_neg h1, if_neg (by simp; omega)]
  rw [e]
  exact h
 have HA1 := hid (fun k h h' => pgR_at l (nP l) k h h')
 have HL1 : Hid ((pgR l (nP l)).length = nP l) := hid (by simp [pgR])
 have HF1 : Hid (∀ k, segF l k = ⟨(pgs l k).ty, (pgs l k).fl, (pgs l k).va, (pgs l k).pa, (pgs l k).ms, (pgs l k).al, pgPl l (pgs l k)⟩) := hid fun k => rfl
 have HM1 := hid (range_map (segF l))
 have HFin : Hid (∀ a W' A2 c2, RpF A n c z h f m s (pSize (lWide l)) (sSize (lWide l)) a → a.tmps.getD 15 undef = .int .u64 (nS l : Int) → a.tmps.getD 21 undef = .slice A1 (nP l) c1 → RPB w W' z h f m s (hdOf l).C #[.bool (lWide l), .bool (lBig l)] (hdM l (.slice A2 (nP l) c2) (.slice none 0 0) (nI l : Int)) (fst_ l).C → ZO W' base 76 8 A1 (nP l) c1 (pgR l (nP l)) → GR sgK W' base 56 A2 (nP l) c2 ((List.range (nP l)).map (segF l)) →
   (sufOf 21 (bodyOf Tryz.f12)).wp Tryz.prog (bodyPost Tryz.prog Tryz.f12 (RParseR l w)) a W') := hid fun a W' A2 c2 e1 e2 e3 e4 e5 e6 => H a W' ⟨z, h, f, m, s, base, A1, c1, A2, c2, e1, HA.out, e4, e2, hc0, e3, e5, hpb, e6⟩
 have HMb : Hid (m < base) := hid (by have := HA.out.b; have := HA.out.ms; omega)
 obtain ⟨g0, g1, g2, g3, g4, g5', g6, g7, hMC⟩ : ∃ g0 g1 g2 g3 g4 g5 g6 g7 : Value, ∀ x y, hdM l x y (nI l : Int) = #[g0, g1, g2, g3, g4, g5, g6, g7, x, y, .int .i64 (nI l : Int)] := ⟨_, _, _, _, _, _, _, _, fun _ _ => rfl⟩
 rw [hMC] at hb
 simp only [hMC] at HFin
 clear hMC
 obtain ⟨FC, hFC⟩ : ∃ x, (fst_ l).C = x := ⟨_, rfl⟩
 rw [hFC] at HFin hb
 clear hFC
 obtain ⟨CH, hCH⟩ : ∃ x, (hdOf l).C = x := ⟨_, rfl⟩
 rw [hCH] at HFin hb
 clear hCH
 have HZ := hid hzo
 have hzc := hzo.zs.cap
 have hzm := hzo.zs.max
 unfold maxLen at hzm
 have HPl : Hid (nP l ≤ 16) := hid hPg
 clear H hr hle hT hn hok fok hc0 hpb hzo hPg
 generalize pSize (lWide l) = z2 at *
 generalize sSize (lWide l) = z3 at *
 generalize lWide l = wide at *
 generalize lBig l = big at *
 generalize nS l = S at *
 generalize nP l = P at *
 generalize nI l = I at *
 generalize segF l = sF at *
 generalize pgPl l = pP at *
 generalize pgR l P = R1 at *
 generalize pgs l = pgF at *
 unfold PlaceR at HFd
 have HM0 := hid hb
 clear hb
 conv => arg 2; whnf
 apply wp_seq_k
 intro K hK
 have HK := hid hK
 clear hK
 go_wp2_with fail
 go_loopw [27] (fun i wr => ∃ (k : Nat) (As : Option Addr) (cs : Nat), k ≤ P ∧ i = .int .i64 k ∧ RPB w wr z h f m s CH #[.bool wide, .bool big] #[g0, g1, g2, g3, g4, g5', g6, g7, .slice As k cs, .slice none 0 0, .int .i64 (I : Int)] FC ∧ ZO wr base 76 8 A1 P c1 R1 ∧ GR sgK wr base 56 As k cs ((List.range k).map sF)) (fun i _ => P - (intOf i).toNat)
 case atStart => exact ⟨0, none, 0, by omega, rfl, HM0.out, HZ.out, GR.nil trivial⟩
 case round =>
  obtain ⟨k, As, cs, hk, rfl, hb, hz, hgr⟩ := hrel
  clear HM0 HZ
  have HM := hid hb
  have HZ := hid hz
  have HG := hid hgr
  clear hb hz hgr
  by_cases hlt : k < P
  ·have HLt := hid hlt
   have HK64 : Hid (k ≤ 64) := hid (by have := HPl.out; omega)
   obtain ⟨b, o, hAA, hb, hcell⟩ := HZ.out.zs.pos (by omega)
   subst hAA
   have hkR : k < R1.length := by rw [HL1.out]; exact hlt
   have hcell' : ∀ i v, (pgF k).C[i]? = some v → wr.cell? ⟨b, o + k * 8 + i, none⟩ = some v := fun i v hv => hcell k hkR i v (by rw [HA1.out k hlt hkR]; exact hv)
   obtain ⟨ow, how⟩ : ∃ ow : Bool, ((((pgF k).ty : Nat) : Int) == 1) = ow := ⟨_, rfl⟩
   have HFk := hid (fun W hg hz => HFd.out k hlt ow how W hg hz)
   have HSk := hid (HF1.out k)
   have HMk := hid (HM1.out k)
   clear hkR hcell hk hb
   generalize pP (pgF k) = q at HFk HSk
   generalize pgF k = p at hcell' HFk HSk how
   obtain ⟨ty, fl, off, va, pa, fs, ms, al⟩ := p
   unfold Pg.C at hcell'
   unfold plC at HFk
   simp only [] at hcell' HFk HSk how
   have HRk : Hid (∀ (Ax : Option Addr) (nx cx : Nat), (#[.int .u32 (ty : Int), .int .u32 (fl : Int), .int .u64 (va : Int), .int .u64 (pa : Int), .int .u64 (ms : Int), .int .u64 (al : Int), .int .i64 q.inn, .int .u64 (q.off : Int), .int .u64 (q.size : Int), .slice Ax nx cx] : Array Value) = sgK.cs (sF k) (.slice Ax nx cx)) := hid fun Ax nx cx => by rw [HSk.out]; rfl
   have HBy : Hid (q.own = sgK.by_ (sF k)) := hid (by rw [HSk.out]; rfl)
   have w0 : wr.cell? ⟨b, o + k * 8, none⟩ = _ := hcell' 0 _ rfl
   have w1 := hcell' 1 _ rfl
   have w2 := hcell' 2 _ rfl
   have w3 := hcell' 3 _ rfl
   have w4 := hcell' 4 _ rfl
   have w5 := hcell' 5 _ rfl
   have w6 := hcell' 6 _ rfl
   have w7 := hcell' 7 _ rfl
   have d1 : decide ((k : Int) < (P : Int)) = true := decide_eq_true (by omega)
   have d1' : decide (k < P) = true := decide_eq_true hlt
   clear hcell' HSk
   go_wp2_with fail
   obtain ⟨g5, hg5⟩ : ∃ g, g = wr.heap.size := ⟨_, rfl⟩
   refine wp_region_tree (leap_kept (fun j => j = g5)) (.chain [(0, true), (2, true), (3, true), (4, true), (5, true), (6, true), (7, true), (8, true), (9, true), (10, true), (11, true), (12, true), (13, true), (14, true), (15, true), (16, true), (17, true), (18, true), (19, true), (20, true), (21, true), (22, true)] (.both 1 (.chain [(23, false), (24, true), (25, false), (26, false), (27, true), (28, false)] .done) 23 (.chain [(24, true)] (.both 1 (.chain [(25, false), (26, false), (27, true), (28, false)] .done) 25 (.chain [(1, false), (26, false), (27, true), (28, false)] .done))))) (by kernel_rfl) (by kernel_rfl) (by kernel_rfl) ?_
   generalize hW : World.alloc _ _ = W5
   obtain ⟨b5, hg⟩ := blk1 hW
   rw [← hg5] at b5 ⊢
   clear hW w0 w1 w2 w3 w4 w5 w6 w7 d1 d1'
   have HKe : Hid (∀ (Rw : List (Array Value)) (i : Nat) {v : World}, ZO v base 56 10 As k cs Rw → own As = some i → ¬ i = g5) := hid fun Rw i v hzo e => by
    obtain ⟨Ra, hza, _⟩ := HG.out
    have h3 : i < wr.heap.size := by
     rcases hza.1.2 with ⟨hv, _⟩ | ⟨g', cap, cur, hv, _, hh, _⟩
     ·injection hv with e1 _ _; subst e1; cases e
     ·injection hv with e1 _ _; subst e1
      have e3 : g' = i := Option.some.inj e
      subst e3
      rcases Nat.lt_or_ge g' wr.heap.size with h | h
      ·exact h
      ·rw [Array.getElem?_eq_none h] at hh; cases hh
    omega
   have HKg : Hid (¬ m = g5) := hid (by have := HM.out.m.lt; omega)
   have hgd := hg.trans (Grow.of_drew W5)
   have HM1000 := hid (HM.out.grow hgd)
   have HG1000 := hid (HG.out.keep hgd)
   have HZ1000 := hid (HZ.out.keep hgd)
   have HX := hid b5.drew
   clear b5 hg hgd hg5 HM HG HZ
   generalize W5.drew = x0 at HM1000 HG1000 HZ1000 HX ⊢
   have q0 : ∀ W, Kept (fun j => j = g5) x0 W → W.cell? ⟨g5, 0, none⟩ = some (.int .u32 (ty : Int)) := fun W hW => (HX.out.kept hW rfl).at 0
   have q1 : ∀ W, Kept (fun j => j = g5) x0 W → W.cell? ⟨g5, 1, none⟩ = some (.int .u32 (fl : Int)) := fun W hW => (HX.out.kept hW rfl).at 1
   have q2 : ∀ W, Kept (fun j => j = g5) x0 W → W.cell? ⟨g5, 2, none⟩ = some (.int .u64 (off : Int)) := fun W hW => (HX.out.kept hW rfl).at 2
   have q3 : ∀ W, Kept (fun j => j = g5) x0 W → W.cell? ⟨g5, 3, none⟩ = some (.int .u64 (va : Int)) := fun W hW => (HX.out.kept hW rfl).at 3
   have q4 : ∀ W, Kept (fun j => j = g5) x0 W → W.cell? ⟨g5, 4, none⟩ = some (.int .u64 (pa : Int)) := fun W hW => (HX.out.kept hW rfl).at 4
   have q5 : ∀ W, Kept (fun j => j = g5) x0 W → W.cell? ⟨g5, 5, none⟩ = some (.int .u64 (fs : Int)) := fun W hW => (HX.out.kept hW rfl).at 5
   have q6 : ∀ W, Kept (fun j => j = g5) x0 W → W.cell? ⟨g5, 6, none⟩ = some (.int .u64 (ms : Int)) := fun W hW => (HX.out.kept hW rfl).at 6
   have q7 : ∀ W, Kept (fun j => j = g5) x0 W → W.cell? ⟨g5, 7, none⟩ = some (.int .u64 (al : Int)) := fun W hW => (HX.out.kept hW rfl).at 7
   refine tr_chain ?_
   repeat ((first | (refine chain_take rfl (by rfl) ?_ (fun W hG => ?_) ?_; rotate_left; (go_simp; rfl)) | refine chain_skip rfl (by rfl) ?_); simp only [Act.put, List.setIfInBounds_toArray, List.set_cons_zero, List.set_cons_succ])
   clear q0 q1 q2 q3 q4 q5 q6 q7 HX how
   refine chain_done (tr_both (step_op rfl (by rfl) ?A1) (step_op rfl (by rfl) ?B1))
   case' A1 =>
    intro K hK
    have c8 := HM1000.out.m.at 8
    go_simp
    refine hK _ _ ((leap_kept _).refl _) ?_
    clear hK K c8
    refine tr_chain ?_
    refine chain_only rfl (by rfl) (fun K hK => ?_)
    go_simp
    refine (HFk.out _ HM1000.out.g HZ1000.out.zs).mono ?_
    rintro e x2 ⟨Ax, nx, cx, rfl, ho, hg⟩
    refine hK _ _ (Kept.of_grow hg) ?_
    clear hK K
    have HO2 := hid (ho.mono (HM1000.out.base_le HA.out))
    clear ho
    have HM2 := hid (HM1000.out.grow hg)
    have HG2 := hid (HG1000.out.keep hg)
    have HZ2 := hid (HZ1000.out.keep hg)
    clear HM1000 HG1000 HZ1000
    clear hg
    repeat ((first | (refine chain_take rfl (by rfl) ?_ (fun W hG => ?_) ?_; rotate_left; (go_simp; rfl)) | refine chain_skip rfl (by rfl) ?_); simp only [Act.put, List.setIfInBounds_toArray, List.set_cons_zero, List.set_cons_succ])
    refine chain_only rfl (by rfl) (fun K hK => ?_)
    go_simp
    refine hK _ _ (Kept.of_grow (Grow.of_alloc _ _)) ?_
    clear hK K
    generalize hW : World.alloc _ _ = x3
    obtain ⟨bn, hg⟩ := blk1 hW
    clear hW
    have HN3 := hid bn
    clear bn
    have HM3 := hid (HM2.out.grow hg)
    have HG3 := hid (HG2.out.keep hg)
    have HZ3 := hid (HZ2.out.keep hg)
    have HO3 := hid (HO2.out.keep hg)
    clear HM2 HG2 HZ2 HO2
    clear hg
    refine chain_only rfl (by rfl) (fun K hK => ?_)
    obtain ⟨Rw, hzo, hlr, hro⟩ := HG3.out
    have HBs := hid (HM3.out.base_le HA.out)
    refine wp_appendZ _ (.tmp 230) (.tmp 254) 29 rfl base 56 (.agg #[.int .u32 0, .int .u32 0, .int .u64 0, .int .u64 0, .int .u64 0, .int .u64 0, .int .i64 0, .int .u64 0, .int .u64 0, .slice none 0 0]) 10 88 Tryz.underlying29 (by kernel_rfl) rfl (by omega) As k cs Rw rfl hzo _ _ _ rfl HN3.out rfl (by simp [Value.oneCell']) (by have := HK64.out; unfold maxLen; omega) (by have := HK64.out; omega) HBs.out ?_
    intro A5 c5 x4 ho9 hg9 _
    refine hK _ _ (kept_row hg9 (fun i e => HKe.out Rw i hzo e)) ?_
    clear hK K
    have HM4 := hid (HM3.out.by_ HA.out hg9 (fun i e => hzo.ge e))
    have HZ4 := hid (HZ3.out.past hg9 (ZO.kinds HZ3.out hzo (by decide)))
    have HG4 : Hid (GR sgK x4 base 56 A5 (k + 1) c5 ((List.range (k + 1)).map sF)) := hid (by
     rw [HMk.out]
     exact GR.snoc hzo hlr hro ⟨Ax, nx, cx, HRk.out Ax nx cx, HBy.out ▸ HO3.out⟩ (by decide) ho9 hg9)
    clear ho9 hg9 hzo hlr hro HBs
    clear HM3 HG3 HZ3 HO3 HN3
    repeat ((first | (refine chain_take rfl (by rfl) ?_ (fun W hG => ?_) ?_; rotate_left; (go_simp; rfl)) | refine chain_skip rfl (by rfl) ?_); simp only [Act.put, List.setIfInBounds_toArray, List.set_cons_zero, List.set_cons_succ])
    refine chain_only rfl (by rfl) (fun K hK => ?_)
    have c9 := HM4.out.m.at 8
    have s9 := HM4.out.m.soft 8
    go_simp
    refine hK _ _ (kept_set _ _ _ (fun h => HKg.out h)) ?_
    clear hK K c9 s9
    have e9 := setCell_eq_setRow x4 m 8 _ 32 (0, 0) (.slice A5 (k + 1) c5) HM4.out.m
    have HM5 := hid (HM4.out.setM HA.out #[g0, g1, g2, g3, g4, g5', g6, g7, .slice A5 (k + 1) c5, .slice none 0 0, .int .i64 (I : Int)])
    have HG5 := hid (HG4.out.set HMb.out #[g0, g1, g2, g3, g4, g5', g6, g7, .slice A5 (k + 1) c5, .slice none 0 0, .int .i64 (I : Int)])
    have HZ5 := hid (HZ4.out.other (HZ4.out.notb HMb.out) #[g0, g1, g2, g3, g4, g5', g6, g7, .slice A5 (k + 1) c5, .slice none 0 0, .int .i64 (I : Int)])
    rw [e9]
    clear e9
    clear HM4 HG4 HZ4
    refine chain_done (tr_done ?_)
    have hk64 := HK64.out
    have hlt := HLt.out
    go_wp2
    go_roundw
    case rel => exact ⟨k + 1, A5, c5, hlt, by go_num, HM5.out, HZ5.out, HG5.out⟩
    case measure => simp [intOf]; omega
   case' B1 =>
    intro K hK
    go_simp
    refine (HFk.out _ HM1000.out.g HZ1000.out.zs).mono ?_
    rintro e x7 ⟨Ax, nx, cx, rfl, ho, hg⟩
    refine hK _ _ (Kept.of_grow hg) ?_
    clear hK K
    have HO7 := hid (ho.mono (HM1000.out.base_le HA.out))
    clear ho
    have HM7 := hid (HM1000.out.grow hg)
    have HG7 := hid (HG1000.out.keep hg)
    have HZ7 := hid (HZ1000.out.keep hg)
    clear HM1000 HG1000 HZ1000
    clear hg
    refine tr_chain ?_
    repeat ((first | (refine chain_take rfl (by rfl) ?_ (fun W hG => ?_) ?_; rotate_left; (go_simp; rfl)) | refine chain_skip rfl (by rfl) ?_); simp only [Act.put, List.setIfInBounds_toArray, List.set_cons_zero, List.set_cons_succ])
    refine chain_done (tr_both (step_op rfl (by rfl) ?A2) (step_op rfl (by rfl) ?B2))
    case' A2 =>
     intro K hK
     have c8 := HM7.out.m.at 8
     go_simp
     refine hK _ _ ((leap_kept _).refl _) ?_
     clear hK K c8
     refine tr_chain ?_
     refine chain_only rfl (by rfl) (fun K hK => ?_)
     go_simp
     refine hK _ _ (Kept.of_grow (Grow.of_alloc _ _)) ?_
     clear hK K
     generalize hW : World.alloc _ _ = x8
     obtain ⟨bn, hg⟩ := blk1 hW
     clear hW
     have HN8 := hid bn
     clear bn
     have HM8 := hid (HM7.out.grow hg)
     have HG8 := hid (HG7.out.keep hg)
     have HZ8 := hid (HZ7.out.keep hg)
     have HO8 := hid (HO7.out.keep hg)
     clear HM7 HG7 HZ7 HO7
     clear hg
     refine chain_only rfl (by rfl) (fun K hK => ?_)
     obtain ⟨Rw, hzo, hlr, hro⟩ := HG8.out
     have HBs := hid (HM8.out.base_le HA.out)
     refine wp_appendZ _ (.tmp 230) (.tmp 254) 29 rfl base 56 (.agg #[.int .u32 0, .int .u32 0, .int .u64 0, .int .u64 0, .int .u64 0, .int .u64 0, .int .i64 0, .int .u64 0, .int .u64 0, .slice none 0 0]) 10 88 Tryz.underlying29 (by kernel_rfl) rfl (by omega) As k cs Rw rfl hzo _ _ _ rfl HN8.out rfl (by simp [Value.oneCell']) (by have := HK64.out; unfold maxLen; omega) (by have := HK64.out; omega) HBs.out ?_
     intro A5 c5 x9 ho9 hg9 _
     refine hK _ _ (kept_row hg9 (fun i e => HKe.out Rw i hzo e)) ?_
     clear hK K
     have HM9 := hid (HM8.out.by_ HA.out hg9 (fun i e => hzo.ge e))
     have HZ9 := hid (HZ8.out.past hg9 (ZO.kinds HZ8.out hzo (by decide)))
     have HG9 : Hid (GR sgK x9 base 56 A5 (k + 1) c5 ((List.range (k + 1)).map sF)) := hid (by
      rw [HMk.out]
      exact GR.snoc hzo hlr hro ⟨Ax, nx, cx, HRk.out Ax nx cx, HBy.out ▸ HO8.out⟩ (by decide) ho9 hg9)
     clear ho9 hg9 hzo hlr hro HBs
     clear HM8 HG8 HZ8 HO8 HN8
     repeat ((first | (refine chain_take rfl (by rfl) ?_ (fun W hG => ?_) ?_; rotate_left; (go_simp; rfl)) | refine chain_skip rfl (by rfl) ?_); simp only [Act.put, List.setIfInBounds_toArray, List.set_cons_zero, List.set_cons_succ])
     refine chain_only rfl (by rfl) (fun K hK => ?_)
     have c9 := HM9.out.m.at 8
     have s9 := HM9.out.m.soft 8
     go_simp
     refine hK _ _ (kept_set _ _ _ (fun h => HKg.out h)) ?_
     clear hK K c9 s9
     have e9 := setCell_eq_setRow x9 m 8 _ 32 (0, 0) (.slice A5 (k + 1) c5) HM9.out.m
     have HM10 := hid (HM9.out.setM HA.out #[g0, g1, g2, g3, g4, g5', g6, g7, .slice A5 (k + 1) c5, .slice none 0 0, .int .i64 (I : Int)])
     have HG10 := hid (HG9.out.set HMb.out #[g0, g1, g2, g3, g4, g5', g6, g7, .slice A5 (k + 1) c5, .slice none 0 0, .int .i64 (I : Int)])
     have HZ10 := hid (HZ9.out.other (HZ9.out.notb HMb.out) #[g0, g1, g2, g3, g4, g5', g6, g7, .slice A5 (k + 1) c5, .slice none 0 0, .int .i64 (I : Int)])
     rw [e9]
     clear e9
     clear HM9 HG9 HZ9
     refine chain_done (tr_done ?_)
     have hk64 := HK64.out
     have hlt := HLt.out
     go_wp2
     go_roundw
     case rel => exact ⟨k + 1, A5, c5, hlt, by go_num, HM10.out, HZ10.out, HG10.out⟩
     case measure => simp [intOf]; omega
    case' B2 =>
     intro K hK
     go_simp
     refine hK _ _ (Kept.of_grow (Grow.of_alloc _ _)) ?_
     clear hK K
     generalize hW : World.alloc _ _ = x11
     obtain ⟨bn, hg⟩ := blk1 hW
     clear hW
     have HN11 := hid bn
     clear bn
     have HM11 := hid (HM7.out.grow hg)
     have HG11 := hid (HG7.out.keep hg)
     have HZ11 := hid (HZ7.out.keep hg)
     have HO11 := hid (HO7.out.keep hg)
     clear HM7 HG7 HZ7 HO7
     clear hg
     refine tr_chain ?_
     refine chain_only rfl (by rfl) (fun K hK => ?_)
     have c8 := HM11.out.m.at 8
     go_simp
     refine hK _ _ ((leap_kept _).refl _) ?_
     clear hK K c8
     refine chain_only rfl (by rfl) (fun K hK => ?_)
     obtain ⟨Rw, hzo, hlr, hro⟩ := HG11.out
     have HBs := hid (HM11.out.base_le HA.out)
     refine wp_appendZ _ (.tmp 230) (.tmp 254) 29 rfl base 56 (.agg #[.int .u32 0, .int .u32 0, .int .u64 0, .int .u64 0, .int .u64 0, .int .u64 0, .int .i64 0, .int .u64 0, .int .u64 0, .slice none 0 0]) 10 88 Tryz.underlying29 (by kernel_rfl) rfl (by omega) As k cs Rw rfl hzo _ _ _ rfl HN11.out rfl (by simp [Value.oneCell']) (by have := HK64.out; unfold maxLen; omega) (by have := HK64.out; omega) HBs.out ?_
     intro A5 c5 x12 ho9 hg9 _
     refine hK _ _ (kept_row hg9 (fun i e => HKe.out Rw i hzo e)) ?_
     clear hK K
     have HM12 := hid (HM11.out.by_ HA.out hg9 (fun i e => hzo.ge e))
     have HZ12 := hid (HZ11.out.past hg9 (ZO.kinds HZ11.out hzo (by decide)))
     have HG12 : Hid (GR sgK x12 base 56 A5 (k + 1) c5 ((List.range (k + 1)).map sF)) := hid (by
      rw [HMk.out]
      exact GR.snoc hzo hlr hro ⟨Ax, nx, cx, HRk.out Ax nx cx, HBy.out ▸ HO11.out⟩ (by decide) ho9 hg9)
     clear ho9 hg9 hzo hlr hro HBs
     clear HM11 HG11 HZ11 HO11 HN11
     repeat ((first | (refine chain_take rfl (by rfl) ?_ (fun W hG => ?_) ?_; rotate_left; (go_simp; rfl)) | refine chain_skip rfl (by rfl) ?_); simp only [Act.put, List.setIfInBounds_toArray, List.set_cons_zero, List.set_cons_succ])
     refine chain_only rfl (by rfl) (fun K hK => ?_)
     have c9 := HM12.out.m.at 8
     have s9 := HM12.out.m.soft 8
     go_simp
     refine hK _ _ (kept_set _ _ _ (fun h => HKg.out h)) ?_
     clear hK K c9 s9
     have e9 := setCell_eq_setRow x12 m 8 _ 32 (0, 0) (.slice A5 (k + 1) c5) HM12.out.m
     have HM13 := hid (HM12.out.setM HA.out #[g0, g1, g2, g3, g4, g5', g6, g7, .slice A5 (k + 1) c5, .slice none 0 0, .int .i64 (I : Int)])
     have HG13 := hid (HG12.out.set HMb.out #[g0, g1, g2, g3, g4, g5', g6, g7, .slice A5 (k + 1) c5, .slice none 0 0, .int .i64 (I : Int)])
     have HZ13 := hid (HZ12.out.other (HZ12.out.notb HMb.out) #[g0, g1, g2, g3, g4, g5', g6, g7, .slice A5 (k + 1) c5, .slice none 0 0, .int .i64 (I : Int)])
     rw [e9]
     clear e9
     clear HM12 HG12 HZ12
     refine chain_done (tr_done ?_)
     have hk64 := HK64.out
     have hlt := HLt.out
     go_wp2
     go_roundw
     case rel => exact ⟨k + 1, A5, c5, hlt, by go_num, HM13.out, HZ13.out, HG13.out⟩
     case measure => simp [intOf]; omega
  ·obtain rfl : P = k := by omega
   have d1 : decide ((P : Int) < (P : Int)) = false := by simp
   have d1' : decide (P < P) = false := by simp
   go_wp2
   apply HK.out
   exact HFin.out _ _ As cs ⟨rfl, rfl, rfl, rfl, rfl, rfl, rfl, rfl, rfl, rfl, rfl⟩ rfl rfl HM.out HZ.out HG.out
end Go.Proofs.YtlccbekalccahaaGreatDoor
