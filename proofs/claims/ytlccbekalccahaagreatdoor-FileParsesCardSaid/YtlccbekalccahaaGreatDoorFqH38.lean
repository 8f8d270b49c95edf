/-
  Several texts in one: The walk of the document's own Parse, part G.
-/
import Derived.Test.YtlccbekalccahaaGreatDoorFqH35
import Derived.Test.YtlccbekalccahaaGreatDoorFqH25
namespace Go.Proofs.YtlccbekalccahaaGreatDoor
open Go.Lib (hid)
open Go.RowKit
set_option maxRecDepth 100000
set_option linter.unusedVariables false
theorem ZO.blkNe {w : World} {base : Nat} {e t : TypeId} {z : Nat} {A : Option Addr} {n c g : Nat} {l : List (Array Value)} {cs : Array Value} (h : ZO w base e z A n c l) (hb : Blk w g t cs) (ht : e ≠ t) : own A ≠ some g := by
 intro he
 rcases h.1.2 with ⟨hv, _⟩ | ⟨g', cap, cur, hv, _, hh, _⟩
 ·injection hv with e1 _ _
  subst e1
  cases he
 ·injection hv with e1 _ _
  subst e1
  have e3 : g' = g := Option.some.inj he
  subst e3
  rw [hb] at hh
  injection hh with hh
  injection hh with _ hh
  exact ht hh.symm
set_option maxHeartbeats 20000000 in
theorem rp_6 (l : List UInt8) (A : Option Addr) (n c : Nat) (w : World) (hr : RB w w.heap.size A n c l) (hle : l.length ≤ 65536) (hT : HTold l 0 0 (hdOf l).V)
  (H : ∀ a W, I22 l A n c w a W → (sufOf 22 (bodyOf Tryz.f12)).wp Tryz.prog (bodyPost Tryz.prog Tryz.f12 (RParseR l w)) a W) :
  ∀ a W, I21 l A n c w a W → (sufOf 21 (bodyOf Tryz.f12)).wp Tryz.prog (bodyPost Tryz.prog Tryz.f12 (RParseR l w)) a W := by
 rintro a W ⟨z, h, f, m, s, base, A1, c1, A2, c2, hf, ha, hb, h15, hc0, h21, hzo, hpb, hgo⟩
 obtain ⟨tv, rfl⟩ := rp_frame a hf.size hf.defers
 have hv0 : tv 0 = .slice A n c := hf.t0
 have hv2 : tv 2 = .pointer (some ⟨z, 0, none⟩) := hf.t2
 have hv5 : tv 5 = .pointer (some ⟨h, 0, none⟩) := hf.t5
 have hv8 : tv 8 = .pointer (some ⟨f, 0, none⟩) := hf.t8
 have hv9 : tv 9 = .int .u64 (n : Int) := hf.t9
 have hv11 : tv 11 = .int .i64 (pSize (lWide l) : Int) := hf.t11
 have hv12 : tv 12 = .int .i64 (sSize (lWide l) : Int) := hf.t12
 have hv13 : tv 13 = .pointer (some ⟨m, 0, none⟩) := hf.t13
 have hv14 : tv 14 = .pointer (some ⟨s, 0, none⟩) := hf.t14
 replace h15 : tv 15 = .int .u64 (nS l : Int) := h15
 have hv15 := h15
 clear h15
 replace h21 : tv 21 = .slice A1 (nP l) c1 := h21
 have hv21 := h21
 clear h21
 rw [hv0, hv2, hv5, hv8, hv9, hv11, hv12, hv13, hv14, hv15, hv21]
 clear hv0 hv2 hv5 hv8 hv9 hv11 hv12 hv13 hv14 hv15 hv21
 clear hf
 have hn := hr.len
 have hcp := hr.cap
 have hmx := hr.max
 unfold maxLen at hmx
 have HA := hid ha
 clear ha
 have hok := hdOf_ok l
 have fok := fst_ok l
 have hPg : nP l ≤ 16 := (pg_ok (cnt_ok hc0).2.1).1
 have hSc : nS l ≤ 65 := by rcases sc_ok (cnt_ok hc0).1 with h | h <;> omega
 have HSG : Hid (∀ k, k < nS l → ∀ W, Grow w W → Calls Tryz.prog 31 #[.slice A n c, .int .u64 (sAt l k : Nat), .agg #[.bool (lWide l), .bool (lBig l)]] W fun e w' => e = .returned (.tuple #[(scs l k).V, .bool true]) ∧ Grow W w') := hid fun k hk W hg => by
  have hin := sAt_in hc0 hk
  refine (rGetSect_any A n c l (sAt l k) (lWide l) (lBig l) W (hr.grow hg) (by omega)).mono fun e w' h => ?_
  rcases h with ⟨_, h1, h2⟩ | ⟨h0, _⟩
  ·exact ⟨h1, h2⟩
  ·omega
 have HSB : Hid (∀ k, k < nS l → sAt l k ≤ 65536) := hid fun k hk => by have := sAt_in hc0 hk; omega
 have HSA : Hid (∀ k, (hdOf l).sh + k * sSize (lWide l) = sAt l k) := hid fun k => rfl
 have HLs : Hid (∀ k, k < nS l - 1 → (∀ j, j < k → sBad l j = 0) → inB n (scs l (k + 1)).off (scs l (k + 1)).held = false → PTold l 5 (sAt l (k + 1)) mdN) := hid fun k h1 h2 h3 => pt_tab hle hT hc0 (tab_s hpb h1 h2 (by rwa [hn] at h3)) (by decide)
 have HSE : Hid (∀ k, inB n (scs l (k + 1)).off (scs l (k + 1)).held = true → sBad l k = 0) := hid fun k h => by unfold sBad; rw [← hn, if_pos h]
 have HSk : Hid (∀ k, (scs l k).Ok) := hid fun k => scOf_ok _ _ _ _
 have HHd : Hid (∀ k, ((scs l k).ty = 0 ∨ (scs l k).ty = 8 → (scs l k).held = 0) ∧ (¬ ((scs l k).ty = 0 ∨ (scs l k).ty = 8) → (scs l k).held = (scs l k).sz)) := hid fun k => ⟨fun h => by unfold Sc.held; rw [if_pos h], fun h => by unfold Sc.held; rw [if_neg h]⟩
 have HFd : Hid (∀ k (own : Bool), (((k + 1 : Nat) : Int) == ((nI l : Nat) : Int)) = own → inB n (scs l (k + 1)).off (scs l (k + 1)).held = true → ∀ W, Grow w W → ZS W W.heap.size 8 A1 (nP l) c1 (pgR l (nP l)) → Calls Tryz.prog 35 #[.slice A n c, .slice A1 (nP l) c1, .int .u64 ((scs l (k + 1)).off : Int), .int .u64 ((scs l (k + 1)).held : Int), .bool own] W (PlaceR (scPl l k (scs l (k + 1))) W)) := hid fun k own ho hin W hg hz => by
  have pok : (scs l (k + 1)).Ok := scOf_ok _ _ _ _
  have hhl : (scs l (k + 1)).held < 18446744073709551616 := by unfold Sc.held; have := pok.sz; split <;> omega
  have h := rFind_all l A n c A1 c1 (scs l (k + 1)).off (scs l (k + 1)).held own W (hr.grow hg) hz hin (by omega) hPg pok.off hhl
  have e : scPl l k (scs l (k + 1)) = if own then ownPl l (scs l (k + 1)).off (scs l (k + 1)).held else findPl l (scs l (k + 1)).off (scs l (k + 1)).held := by
   unfold scPl Sc.held
   subst ho
   by_cases h1 : (scs l (k + 1)).ty = 0 ∨ (scs l (k + 1)).ty = 8
   ·rw [if_pos h1, if_pos h1]
    split <;> rfl
   ·rw [if_neg h1, if_neg h1]
    by_cases h2 : k + 1 = nI l
    ·rw [if_pos h2, if_pos (by rw [h2]; simp)]
    ·rw [if_neg h2, if_neg (by simp; omega)]
  rw [e]
  exact h
 have HF2 : Hid (∀ k, secF l k = ⟨(scs l (k + 1)).na, (scs l (k + 1)).ty, (scs l (k + 1)).fl, (scs l (k + 1)).ad, (scs l (k + 1)).sz, (scs l (k + 1)).li, (scs l (k + 1)).inf, (scs l (k + 1)).al, (scs l (k + 1)).en, scPl l k (scs l (k + 1))⟩) := hid fun k => rfl
 have HM2 := hid (range_map (secF l))
 have HFin : Hid (∀ a W' A3 c3, RpF A n c z h f m s (pSize (lWide l)) (sSize (lWide l)) a → RPB w W' z h f m s (hdOf l).C #[.bool (lWide l), .bool (lBig l)] (hdM l (.slice A2 (nP l) c2) (.slice A3 (nS l - 1) c3) (nI l : Int)) (fst_ l).C → GR sgK W' base 56 A2 (nP l) c2 ((List.range (nP l)).map (segF l)) → GR seK W' base 58 A3 (nS l - 1) c3 ((List.range (nS l - 1)).map (secF l)) → (∀ j, j < nS l - 1 → sBad l j = 0) →
   (sufOf 22 (bodyOf Tryz.f12)).wp Tryz.prog (bodyPost Tryz.prog Tryz.f12 (RParseR l w)) a W') := hid fun a W' A3 c3 e1 e2 e3 e4 e5 => H a W' ⟨z, h, f, m, s, base, A2, c2, A3, c3, e1, HA.out, e2, hc0, e3, e4, tab_ok hpb e5⟩
 have hz3 : sSize (lWide l) ≤ 64 := by cases lWide l <;> decide
 have hIb : nI l < 4294967296 := nI_lt l
 have HMb : Hid (m < base) := hid (by have := HA.out.b; have := HA.out.ms; omega)
 obtain ⟨g0, g1, g2, g3, g4, g5', g6, g7, hMC⟩ : ∃ g0 g1 g2 g3 g4 g5 g6 g7 : Value, ∀ x y, hdM l x y (nI l : Int) = #[g0, g1, g2, g3, g4, g5, g6, g7, x, y, .int .i64 (nI l : Int)] := ⟨_, _, _, _, _, _, _, _, fun _ _ => rfl⟩
 rw [hMC] at hb
 simp only [hMC] at HFin
 clear hMC
 obtain ⟨FC, hFC⟩ : ∃ x, (fst_ l).C = x := ⟨_, rfl⟩
 rw [hFC] at HFin hb
 clear hFC
 obtain ⟨y2, y3, y4, y5, y6, y9, hC⟩ : ∃ y2 y3 y4 y5 y6 y9 : Value, (hdOf l).C = #[.bool (lWide l), .bool (lBig l), y2, y3, y4, y5, y6, .int .u64 ((hdOf l).ph : Int), .int .u64 ((hdOf l).sh : Int), y9, .int .u16 ((hdOf l).pn : Int), .int .u16 ((hdOf l).sn : Int), .int .u16 ((hdOf l).st : Int)] := ⟨_, _, _, _, _, _, rfl⟩
 rw [hC] at HFin hb
 clear hC
 have HZ := hid hzo
 have HQ := hid hgo
 have HSl : Hid (nS l ≤ 65) := hid hSc
 clear H hr hle hT hn hok fok hc0 hpb hzo hgo hPg
 generalize (hdOf l).ph = ph at *
 generalize (hdOf l).sh = sh at *
 generalize (hdOf l).pn = pn at *
 generalize (hdOf l).sn = sn at *
 generalize (hdOf l).st = st at *
 generalize pSize (lWide l) = z2 at *
 generalize sSize (lWide l) = z3 at *
 generalize lWide l = wide at *
 generalize lBig l = big at *
 generalize nS l = S at *
 generalize nP l = P at *
 generalize nI l = I at *
 generalize segF l = sF at *
 generalize secF l = eF at *
 generalize scPl l = sP at *
 generalize pgR l P = R1 at *
 generalize sBad l = sB at *
 generalize sAt l = sA at *
 generalize scs l = scF at *
 unfold PlaceR at HFd
 have HM0 := hid hb
 clear hb
 conv => arg 2; whnf
 apply wp_seq_k
 intro K hK
 have HK := hid hK
 clear hK
 have z1 : IntKind.i64.wrap (S : Int) = (S : Int) := by rw [IntKind.wrap_i64]; omega
 clear hSc
 go_wp2_with fail
 go_loopw [29] (fun i wr => ∃ (j k : Nat) (As : Option Addr) (cs : Nat), Hid (j = k + 1) ∧ k ≤ S - 1 ∧ i = .int .i64 j ∧ RPB w wr z h f m s #[.bool wide, .bool big, y2, y3, y4, y5, y6, .int .u64 (ph : Int), .int .u64 (sh : Int), y9, .int .u16 (pn : Int), .int .u16 (sn : Int), .int .u16 (st : Int)] #[.bool wide, .bool big] #[g0, g1, g2, g3, g4, g5', g6, g7, .slice A2 P c2, .slice As k cs, .int .i64 (I : Int)] FC ∧ ZO wr base 76 8 A1 P c1 R1 ∧ GR sgK wr base 56 A2 P c2 ((List.range P).map sF) ∧ GR seK wr base 58 As k cs ((List.range k).map eF) ∧ Hid (∀ q, q < k → sB q = 0)) (fun i _ => S + 1 - (intOf i).toNat)
 case atStart => exact ⟨1, 0, none, 0, hid rfl, by omega, rfl, HM0.out, HZ.out, HQ.out, GR.nil trivial, hid fun q hq => by omega⟩
 case round =>
  clear HM0 HZ HQ
  obtain ⟨j, k, As, cs, HJ, hk, rfl, hb, hz, hq, hgr, HB⟩ := hrel
  have HM := hid hb
  have HZ := hid hz
  have HQ := hid hq
  have HG := hid hgr
  clear hb hz hq hgr
  by_cases hlt : j < S
  ·have HLt : Hid (k < S - 1) := hid (by have := HJ.out; omega)
   have HK64 : Hid (k ≤ 64) := hid (by have := HSl.out; omega)
   have hj65 : j ≤ 65 := by have := HSl.out; omega
   have hsA : sA j ≤ 65536 := HSB.out j hlt
   have hSA := HSA.out j
   obtain ⟨q, hq⟩ : ∃ q, q = j * z3 := ⟨_, rfl⟩
   rw [← hq] at hSA
   have hq1 : q ≤ 10000 := by rw [hq]; exact Nat.le_trans (Nat.mul_le_mul hj65 hz3) (by decide)
   have e1 : IntKind.i64.wrap ((j : Int) * (z3 : Int)) = (q : Int) := by
    rw [show (j : Int) * (z3 : Int) = (q : Int) by rw [hq]; push_cast; rfl, IntKind.wrap_i64]; omega
   have e2 : IntKind.u64.wrap (q : Int) = (q : Int) := by rw [IntKind.wrap_u64]; omega
   have e3 : IntKind.u64.wrap ((sh : Int) + (q : Int)) = (sA j : Int) := by rw [IntKind.wrap_u64]; omega
   have HSGk := hid (fun W hg => HSG.out j hlt W hg)
   have HLsk := hid (HLs.out k HLt.out HB.out)
   have HSEk := hid (HSE.out k)
   have HSkk := hid (HSk.out (k + 1))
   have HHdk := hid (HHd.out (k + 1))
   obtain ⟨ow, how⟩ : ∃ ow : Bool, (((k + 1 : Nat) : Int) == ((I : Nat) : Int)) = ow := ⟨_, rfl⟩
   have HFk0 := hid (HFd.out k ow how)
   have HSk2 := hid (HF2.out k)
   have HMk := hid (HM2.out k)
   have HS1 : Hid (sA j ≤ 65536) := hid hsA
   rw [← HJ.out] at HLsk HSEk HSkk HHdk HFk0 HSk2 how
   have d1 : decide ((j : Int) < (S : Int)) = true := decide_eq_true (by omega)
   have d1' : decide (j < S) = true := decide_eq_true hlt
   clear hk hlt hsA hSA hq hq1 hj65
   generalize sA j = at1 at *
   have v8 := HM.out.h.at 8
   have f0 := HM.out.f.at 0
   have f1 := HM.out.f.at 1
   go_wp2_with fail
   clear f0 f1 v8 e1 e2 e3 d1 d1'
   refine (HSGk.out _ HM.out.g).mono ?_
   rintro e w4 ⟨rfl, hg⟩
   have HM4 := hid (HM.out.grow hg)
   have HZ4 := hid (HZ.out.keep hg)
   have HQ4 := hid (HQ.out.keep hg)
   have HG4 := hid (HG.out.keep hg)
   have HMlt : Hid (m < w4.heap.size) := hid HM4.out.m.lt
   clear hg HM HZ HQ HG HSGk
   generalize sP k (scF j) = qp at HFk0 HSk2
   generalize scF j = p at HLsk HSEk HSkk HHdk HFk0 HSk2 ⊢
   have hhl : p.held < 18446744073709551616 := by
    have h2 := HSkk.out.sz
    by_cases h1 : p.ty = 0 ∨ p.ty = 8
    ·rw [HHdk.out.1 h1]; decide
    ·rw [HHdk.out.2 h1]; exact h2
   generalize p.held = hd at HLsk HSEk HHdk HFk0 hhl
   obtain ⟨na, ty, fl, ad, off, sz, li, inf, al, en⟩ := p
   have ho1 := HSkk.out.off
   have ho2 := HSkk.out.sz
   unfold Sc.V Sc.C
   unfold plC at HFk0
   simp only [] at HLsk HSEk HHdk HFk0 HSk2 ho1 ho2
   have HRk : Hid (∀ (Ax : Option Addr) (nx cx : Nat), (#[.int .u32 (na : Int), .int .u32 (ty : Int), .int .u64 (fl : Int), .int .u64 (ad : Int), .int .u64 (sz : Int), .int .u32 (li : Int), .int .u32 (inf : Int), .int .u64 (al : Int), .int .u64 (en : Int), .int .i64 qp.inn, .int .u64 (qp.off : Int), .int .u64 (qp.size : Int), .slice Ax nx cx] : Array Value) = seK.cs (eF k) (.slice Ax nx cx)) := hid fun Ax nx cx => by rw [HSk2.out]; rfl
   have HBy : Hid (qp.own = seK.by_ (eF k)) := hid (by rw [HSk2.out]; rfl)
   have HWi := hid (fun W => refWithin_any (off : Int) (hd : Int) (n : Int) W (by omega) (by omega) (by omega))
   have HEq : Hid (wthn (off : Int) (hd : Int) (n : Int) = decide (off + hd ≤ n)) := hid (by unfold wthn; rw [Bool.eq_iff_iff, decide_eq_true_iff, decide_eq_true_iff]; omega)
   have HIn : Hid (inB n off hd = decide (hd = 0 ∨ off + hd ≤ n)) := hid inB_iff
   clear HSkk ho1 ho2 hhl HSk2
   have hxa := Blk.new w4 80 #[.int .u32 (na : Int), .int .u32 (ty : Int), .int .u64 (fl : Int), .int .u64 (ad : Int), .int .u64 (off : Int), .int .u64 (sz : Int), .int .u32 (li : Int), .int .u32 (inf : Int), .int .u64 (al : Int), .int .u64 (en : Int)]
   obtain ⟨x0, x1, x2, x3, x4, x5, x6, x7, x8, x9⟩ := hxa.c10
   clear hxa
   rename_i K9 hK9 Kc hKc
   have HK9 := hid hK9
   clear hK9
   go_wp2
   apply HK9.out
   clear HK9 K9
   generalize hW : World.alloc _ _ = W5 at *
   have hg : Grow w4 W5 := by rw [← hW]; exact Grow.of_alloc _ _
   have HX : Hid (Blk W5 w4.heap.size 80 #[.int .u32 (na : Int), .int .u32 (ty : Int), .int .u64 (fl : Int), .int .u64 (ad : Int), .int .u64 (off : Int), .int .u64 (sz : Int), .int .u32 (li : Int), .int .u32 (inf : Int), .int .u64 (al : Int), .int .u64 (en : Int)]) := hid (by rw [← hW]; exact Blk.new w4 _ _)
   clear hW x0 x1 x2 x3 x4 x5 x6 x7 x8 x9
   have HM5 := hid (HM4.out.grow hg)
   have HZ5 := hid (HZ4.out.keep hg)
   have HQ5 := hid (HQ4.out.keep hg)
   have HG5 := hid (HG4.out.keep hg)
   clear hg HM4 HZ4 HQ4 HG4
   have HMx : Hid (m < w4.heap.size) := hid HMlt.out
   clear HMlt
   generalize w4.heap.size = g5 at HX HMx ⊢
   apply wp_seq_k
   intro K9 hK9
   have HK9 := hid hK9
   clear hK9
   have x5 := HX.out.at 5
   go_wp2
   clear x5
   apply HK9.out
   clear HK9 K9
   apply wp_seq_k
   intro K9 hK9
   refine wp_cut_ret (fun a a' w' => W5 = w' ∧ a' = ⟨((a.tmps.toList.take 279 ++ (a'.tmps.toList.drop 279).take 8 ++ a.tmps.toList.drop 287).toArray).setIfInBounds 33 (.int .u64 (hd : Int)), a.defers⟩ ∧ ((a'.tmps.toList.drop 279).take 8).length = 8) ?_ ?_
   ·have x1 := HX.out.at 1
    by_cases h0 : ty = 0
    ·have e := HHdk.out.1 (.inl h0)
     have d2 : ((ty : Int) == 0) = true := by simp [h0]
     subst e
     clear h0 HHdk HLsk HSEk HFk0 HWi HEq HIn
     go_wp2
     exact ⟨by first | trivial | rfl, rfl, rfl⟩
    ·have d2 : ((ty : Int) == 0) = false := by simp [h0]
     by_cases h8 : ty = 8
     ·have e := HHdk.out.1 (.inr h8)
      have d3 : ((ty : Int) == 8) = true := by simp [h8]
      subst e
      clear h0 h8 HHdk HLsk HSEk HFk0 HWi HEq HIn
      go_wp2
      exact ⟨by first | trivial | rfl, rfl, rfl⟩
     ·have e := HHdk.out.2 (by omega)
      have d3 : ((ty : Int) == 8) = false := by simp; omega
      subst e
      clear h0 h8 HHdk HLsk HSEk HFk0 HWi HEq HIn
      go_wp2
      exact ⟨by first | trivial | rfl, rfl, rfl⟩
   rintro a' w' ⟨rfl, ha, hl⟩
   generalize (a'.tmps.toList.drop 279).take 8 = vs at ha hl
   obtain ⟨p279, p280, p281, p282, p283, p284, p285, p286, rfl⟩ := lst8 hl
   subst ha
   clear hl
   apply hK9
   clear hK9
   simp only [List.take_succ_cons, List.take_zero, List.drop_succ_cons, List.drop_zero, List.cons_append, List.nil_append, List.setIfInBounds_toArray, List.set_cons_succ, List.set_cons_zero]
   clear HHdk
   apply wp_seq_k
   intro K9 hK9
   have HK9 := hid hK9
   clear hK9
   have x4 := HX.out.at 4
   go_wp2_with fail
   clear x4
   refine (HWi.out _).mono ?_
   rintro e w5x ⟨rfl, rfl⟩
   rw [HEq.out]
   clear HWi HEq
   go_wp2
   apply HK9.out
   clear HK9 K9
   apply wp_seq_k
   intro K9 hK9
   by_cases hin : hd = 0 ∨ off + hd ≤ n
   rotate_left
   ·have HPT := hid (HLsk.out (by rw [HIn.out]; exact decide_eq_false hin))
    have d2 : decide ((0 : Int) < (hd : Int)) = true := decide_eq_true (by omega)
    have d2' : decide (0 < hd) = true := decide_eq_true (by omega)
    have e4 : IntKind.i64.wrap (at1 : Int) = (at1 : Int) := by rw [IntKind.wrap_i64]; have := HS1.out; omega
    have d3 : decide (off + hd ≤ n) = false := decide_eq_false (by omega)
    rw [d3]
    clear hin d3 HSEk HFk0 HFin HLsk how
    go_wp2_with (refine wpList_store_row rfl 32 (.tmp 2) (.tmp 298) rfl z #[.bool false, .bool false, .int .u8 0, .int .u8 0, .int .u16 0, .int .u16 0, .int .u32 0, .int .u64 0, .slice none 0 0, .slice none 0 0, .int .i64 0] rfl rfl _ _ HM5.out.z (by kernel_rfl) rfl (by simp [Value.oneCell']) ?_)
    exact rparse_no (by rfl) (by rfl) (by rfl) HM5.out.z HPT.out HM5.out.g HA.out.wz
   have HBn : Hid (sB k = 0) := hid (HSEk.out (by rw [HIn.out]; exact decide_eq_true hin))
   have HFk := hid (HFk0.out (by rw [HIn.out]; exact decide_eq_true hin))
   clear HLsk HSEk HIn HFk0
   refine wp_cut_ret (fun a a' w' => W5 = w' ∧ a' = ⟨((a.tmps.toList.take 292 ++ (a'.tmps.toList.drop 292).take 6 ++ a.tmps.toList.drop 298).toArray), a.defers⟩ ∧ ((a'.tmps.toList.drop 292).take 6).length = 6) ?_ ?_
   ·by_cases h0 : hd = 0
    ·have d2 : decide ((0 : Int) < (hd : Int)) = false := decide_eq_false (by omega)
     have d2' : decide (0 < hd) = false := decide_eq_false (by omega)
     clear h0 hin
     go_wp2
     exact ⟨by first | trivial | rfl, rfl, rfl⟩
    ·have d2 : decide ((0 : Int) < (hd : Int)) = true := decide_eq_true (by omega)
     have d2' : decide (0 < hd) = true := decide_eq_true (by omega)
     have d3 : decide (off + hd ≤ n) = true := decide_eq_true (by omega)
     rw [d3]
     clear h0 hin d3
     go_wp2
     exact ⟨by first | trivial | rfl, rfl, rfl⟩
   rintro a' w' ⟨rfl, ha, hl⟩
   generalize (a'.tmps.toList.drop 292).take 6 = vs at ha hl
   obtain ⟨p292, p293, p294, p295, p296, p297, rfl⟩ := lst6 hl
   subst ha
   clear hl
   apply hK9
   clear hK9
   simp only [List.take_succ_cons, List.take_zero, List.drop_succ_cons, List.drop_zero, List.cons_append, List.nil_append]
   clear hin
   have hkp : Grow W5 W5.drew := Grow.of_drew W5
   refine wp_region_tree (leap_kept (fun j => j = g5)) (.chain [(0, true), (2, true), (3, true), (4, true), (5, true), (6, true), (7, true), (8, true), (9, true), (10, true), (11, true), (12, true), (13, true), (14, true), (15, true), (16, true), (17, true), (18, true), (19, true), (20, true), (21, true), (22, true), (23, true), (24, true), (25, true), (26, true)] (.both 1 (.chain [(27, false), (28, true), (29, false), (30, true), (31, false), (32, false), (33, true), (34, false)] .done) 27 (.chain [(28, true)] (.both 1 (.chain [(29, false), (30, true), (31, false), (32, false), (33, true), (34, false)] .done) 29 (.chain [(30, true)] (.both 1 (.chain [(31, false), (32, false), (33, true), (34, false)] .done) 31 (.chain [(1, false), (32, false), (33, true), (34, false)] .done))))))) (by kernel_rfl) (by kernel_rfl) (by kernel_rfl) ?_
   have HKe : Hid (∀ (Rw : List (Array Value)) (i : Nat) {v : World}, ZO v base 58 13 As k cs Rw → own As = some i → ¬ i = g5) := hid fun Rw i v hzo e he => by
    obtain ⟨Ra, hza, _⟩ := HG5.out
    exact ZO.blkNe hza HX.out (by decide) (by rw [e, he])
   have HKg : Hid (¬ m = g5) := hid (by have := HMx.out; omega)
   have HM1000 := hid (HM5.out.grow hkp)
   have HG1000 := hid (HG5.out.keep hkp)
   have HZ1000 := hid (HZ5.out.keep hkp)
   have HQ1000 := hid (HQ5.out.keep hkp)
   have HX2 := hid (HX.out.grow hkp)
   clear hkp HM5 HG5 HZ5 HQ5 HX
   generalize W5.drew = x0 at HM1000 HG1000 HZ1000 HQ1000 HX2 ⊢
   have q0 : ∀ W, Kept (fun j => j = g5) x0 W → W.cell? ⟨g5, 0, none⟩ = some (.int .u32 (na : Int)) := fun W hW => (HX2.out.kept hW rfl).at 0
   have q1 : ∀ W, Kept (fun j => j = g5) x0 W → W.cell? ⟨g5, 1, none⟩ = some (.int .u32 (ty : Int)) := fun W hW => (HX2.out.kept hW rfl).at 1
   have q2 : ∀ W, Kept (fun j => j = g5) x0 W → W.cell? ⟨g5, 2, none⟩ = some (.int .u64 (fl : Int)) := fun W hW => (HX2.out.kept hW rfl).at 2
   have q3 : ∀ W, Kept (fun j => j = g5) x0 W → W.cell? ⟨g5, 3, none⟩ = some (.int .u64 (ad : Int)) := fun W hW => (HX2.out.kept hW rfl).at 3
   have q4 : ∀ W, Kept (fun j => j = g5) x0 W → W.cell? ⟨g5, 4, none⟩ = some (.int .u64 (off : Int)) := fun W hW => (HX2.out.kept hW rfl).at 4
   have q5 : ∀ W, Kept (fun j => j = g5) x0 W → W.cell? ⟨g5, 5, none⟩ = some (.int .u64 (sz : Int)) := fun W hW => (HX2.out.kept hW rfl).at 5
   have q6 : ∀ W, Kept (fun j => j = g5) x0 W → W.cell? ⟨g5, 6, none⟩ = some (.int .u32 (li : Int)) := fun W hW => (HX2.out.kept hW rfl).at 6
   have q7 : ∀ W, Kept (fun j => j = g5) x0 W → W.cell? ⟨g5, 7, none⟩ = some (.int .u32 (inf : Int)) := fun W hW => (HX2.out.kept hW rfl).at 7
   have q8 : ∀ W, Kept (fun j => j = g5) x0 W → W.cell? ⟨g5, 8, none⟩ = some (.int .u64 (al : Int)) := fun W hW => (HX2.out.kept hW rfl).at 8
   have q9 : ∀ W, Kept (fun j => j = g5) x0 W → W.cell? ⟨g5, 9, none⟩ = some (.int .u64 (en : Int)) := fun W hW => (HX2.out.kept hW rfl).at 9
   refine tr_chain ?_
   repeat ((first | (refine chain_take rfl (by rfl) ?_ (fun W hG => ?_) ?_; rotate_left; (go_simp; rfl)) | refine chain_skip rfl (by rfl) ?_); simp only [Act.put, List.setIfInBounds_toArray, List.set_cons_zero, List.set_cons_succ])
   clear q0 q1 q2 q3 q4 q5 q6 q7 q8 q9 HX2
   refine chain_done (tr_both (step_op rfl (by rfl) ?A1) (step_op rfl (by rfl) ?B1))
   case' A1 =>
    intro K hK
    have c8 := HM1000.out.m.at 9
    go_simp
    refine hK _ _ ((leap_kept _).refl _) ?_
    clear hK K c8
    refine tr_chain ?_
    refine chain_only rfl (by rfl) (fun K hK => ?_)
    have c8 := HM1000.out.m.at 10
    go_simp
    refine hK _ _ ((leap_kept _).refl _) ?_
    clear hK K c8
    repeat ((first | (refine chain_take rfl (by rfl) ?_ (fun W hG => ?_) ?_; rotate_left; (go_simp; rfl)) | refine chain_skip rfl (by rfl) ?_); simp only [Act.put, List.setIfInBounds_toArray, List.set_cons_zero, List.set_cons_succ])
    refine chain_only rfl (by rfl) (fun K hK => ?_)
    go_simp
    refine (HFk.out _ HM1000.out.g HZ1000.out.zs).mono ?_
    rintro e x15 ⟨Ax, nx, cx, rfl, ho, hg⟩
    refine hK _ _ (Kept.of_grow hg) ?_
    clear hK K
    have HO15 := hid (ho.mono (HM1000.out.base_le HA.out))
    clear ho
    have HM15 := hid (HM1000.out.grow hg)
    have HG15 := hid (HG1000.out.keep hg)
    have HZ15 := hid (HZ1000.out.keep hg)
    have HQ15 := hid (HQ1000.out.keep hg)
    clear HM1000 HG1000 HZ1000 HQ1000
    clear hg
    repeat ((first | (refine chain_take rfl (by rfl) ?_ (fun W hG => ?_) ?_; rotate_left; (go_simp; rfl)) | refine chain_skip rfl (by rfl) ?_); simp only [Act.put, List.setIfInBounds_toArray, List.set_cons_zero, List.set_cons_succ])
    refine chain_only rfl (by rfl) (fun K hK => ?_)
    go_simp
    refine hK _ _ (Kept.of_grow (Grow.of_alloc _ _)) ?_
    clear hK K
    generalize hW : World.alloc _ _ = x16
    obtain ⟨bn, hg⟩ := blk1 hW
    clear hW
    have HN16 := hid bn
    clear bn
    have HM16 := hid (HM15.out.grow hg)
    have HG16 := hid (HG15.out.keep hg)
    have HZ16 := hid (HZ15.out.keep hg)
    have HQ16 := hid (HQ15.out.keep hg)
    have HO16 := hid (HO15.out.keep hg)
    clear HM15 HG15 HZ15 HQ15 HO15
    clear hg
    refine chain_only rfl (by rfl) (fun K hK => ?_)
    obtain ⟨Rw, hzo, hlr, hro⟩ := HG16.out
    have HBs := hid (HM16.out.base_le HA.out)
    refine wp_appendZ _ (.tmp 302) (.tmp 332) 30 rfl base 58 (.agg #[.int .u32 0, .int .u32 0, .int .u64 0, .int .u64 0, .int .u64 0, .int .u32 0, .int .u32 0, .int .u64 0, .int .u64 0, .int .i64 0, .int .u64 0, .int .u64 0, .slice none 0 0]) 13 104 Tryz.underlying30 (by kernel_rfl) rfl (by omega) As k cs Rw rfl hzo _ _ _ rfl HN16.out rfl (by simp [Value.oneCell']) (by have := HK64.out; unfold maxLen; omega) (by have := HK64.out; omega) HBs.out ?_
    intro A5 c5 x17 ho9 hg9 _
    refine hK _ _ (kept_row hg9 (fun i e => HKe.out Rw i hzo e)) ?_
    clear hK K
    have HM17 := hid (HM16.out.by_ HA.out hg9 (fun i e => hzo.ge e))
    have HZ17 := hid (HZ16.out.past hg9 (ZO.kinds HZ16.out hzo (by decide)))
    have HQ17 := hid (HQ16.out.past hzo (by decide) (by decide) hg9)
    have HG17 : Hid (GR seK x17 base 58 A5 (k + 1) c5 ((List.range (k + 1)).map eF)) := hid (by
     rw [HMk.out]
     exact GR.snoc hzo hlr hro ⟨Ax, nx, cx, HRk.out Ax nx cx, HBy.out ▸ HO16.out⟩ (by decide) ho9 hg9)
    clear ho9 hg9 hzo hlr hro HBs
    clear HM16 HG16 HZ16 HQ16 HO16 HN16
    repeat ((first | (refine chain_take rfl (by rfl) ?_ (fun W hG => ?_) ?_; rotate_left; (go_simp; rfl)) | refine chain_skip rfl (by rfl) ?_); simp only [Act.put, List.setIfInBounds_toArray, List.set_cons_zero, List.set_cons_succ])
    refine chain_only rfl (by rfl) (fun K hK => ?_)
    have c9 := HM17.out.m.at 9
    have s9 := HM17.out.m.soft 9
    go_simp
    refine hK _ _ (kept_set _ _ _ (fun h => HKg.out h)) ?_
    clear hK K c9 s9
    have e9 := setCell_eq_setRow x17 m 9 _ 32 (0, 0) (.slice A5 (k + 1) c5) HM17.out.m
    have HM18 := hid (HM17.out.setM HA.out #[g0, g1, g2, g3, g4, g5', g6, g7, .slice A2 P c2, .slice A5 (k + 1) c5, .int .i64 (I : Int)])
    have HG18 := hid (HG17.out.set HMb.out #[g0, g1, g2, g3, g4, g5', g6, g7, .slice A2 P c2, .slice A5 (k + 1) c5, .int .i64 (I : Int)])
    have HZ18 := hid (HZ17.out.other (HZ17.out.notb HMb.out) #[g0, g1, g2, g3, g4, g5', g6, g7, .slice A2 P c2, .slice A5 (k + 1) c5, .int .i64 (I : Int)])
    have HQ18 := hid (HQ17.out.set HMb.out #[g0, g1, g2, g3, g4, g5', g6, g7, .slice A2 P c2, .slice A5 (k + 1) c5, .int .i64 (I : Int)])
    rw [e9]
    clear e9
    clear HM17 HG17 HZ17 HQ17
    refine chain_done (tr_done ?_)
    have hk64 := HK64.out
    have hlt := HLt.out
    have hj65 : j ≤ 65 := by have := HJ.out; omega
    go_wp2
    go_roundw
    case rel => exact ⟨j + 1, k + 1, A5, c5, hid (by have := HJ.out; omega), hlt, by go_num, HM18.out, HZ18.out, HQ18.out, HG18.out, hid fun q hq => by
     rcases Nat.lt_or_ge q k with h | h
     ·exact HB.out q h
     ·rw [show q = k by omega, HBn.out]⟩
    case measure => simp [intOf]; have := HJ.out; omega
   case' B1 =>
    intro K hK
    have c8 := HM1000.out.m.at 10
    go_simp
    refine hK _ _ ((leap_kept _).refl _) ?_
    clear hK K c8
    refine tr_chain ?_
    repeat ((first | (refine chain_take rfl (by rfl) ?_ (fun W hG => ?_) ?_; rotate_left; (go_simp; rfl)) | refine chain_skip rfl (by rfl) ?_); simp only [Act.put, List.setIfInBounds_toArray, List.set_cons_zero, List.set_cons_succ])
    refine chain_done (tr_both (step_op rfl (by rfl) ?A2) (step_op rfl (by rfl) ?B2))
    case' A2 =>
     intro K hK
     have c8 := HM1000.out.m.at 9
     go_simp
     refine hK _ _ ((leap_kept _).refl _) ?_
     clear hK K c8
     refine tr_chain ?_
     refine chain_only rfl (by rfl) (fun K hK => ?_)
     go_simp
     refine (HFk.out _ HM1000.out.g HZ1000.out.zs).mono ?_
     rintro e x20 ⟨Ax, nx, cx, rfl, ho, hg⟩
     refine hK _ _ (Kept.of_grow hg) ?_
     clear hK K
     have HO20 := hid (ho.mono (HM1000.out.base_le HA.out))
     clear ho
     have HM20 := hid (HM1000.out.grow hg)
     have HG20 := hid (HG1000.out.keep hg)
     have HZ20 := hid (HZ1000.out.keep hg)
     have HQ20 := hid (HQ1000.out.keep hg)
     clear HM1000 HG1000 HZ1000 HQ1000
     clear hg
     repeat ((first | (refine chain_take rfl (by rfl) ?_ (fun W hG => ?_) ?_; rotate_left; (go_simp; rfl)) | refine chain_skip rfl (by rfl) ?_); simp only [Act.put, List.setIfInBounds_toArray, List.set_cons_zero, List.set_cons_succ])
     refine chain_only rfl (by rfl) (fun K hK => ?_)
     go_simp
     refine hK _ _ (Kept.of_grow (Grow.of_alloc _ _)) ?_
     clear hK K
     generalize hW : World.alloc _ _ = x21
     obtain ⟨bn, hg⟩ := blk1 hW
     clear hW
     have HN21 := hid bn
     clear bn
     have HM21 := hid (HM20.out.grow hg)
     have HG21 := hid (HG20.out.keep hg)
     have HZ21 := hid (HZ20.out.keep hg)
     have HQ21 := hid (HQ20.out.keep hg)
     have HO21 := hid (HO20.out.keep hg)
     clear HM20 HG20 HZ20 HQ20 HO20
     clear hg
     refine chain_only rfl (by rfl) (fun K hK => ?_)
     obtain ⟨Rw, hzo, hlr, hro⟩ := HG21.out
     have HBs := hid (HM21.out.base_le HA.out)
     refine wp_appendZ _ (.tmp 302) (.tmp 332) 30 rfl base 58 (.agg #[.int .u32 0, .int .u32 0, .int .u64 0, .int .u64 0, .int .u64 0, .int .u32 0, .int .u32 0, .int .u64 0, .int .u64 0, .int .i64 0, .int .u64 0, .int .u64 0, .slice none 0 0]) 13 104 Tryz.underlying30 (by kernel_rfl) rfl (by omega) As k cs Rw rfl hzo _ _ _ rfl HN21.out rfl (by simp [Value.oneCell']) (by have := HK64.out; unfold maxLen; omega) (by have := HK64.out; omega) HBs.out ?_
     intro A5 c5 x22 ho9 hg9 _
     refine hK _ _ (kept_row hg9 (fun i e => HKe.out Rw i hzo e)) ?_
     clear hK K
     have HM22 := hid (HM21.out.by_ HA.out hg9 (fun i e => hzo.ge e))
     have HZ22 := hid (HZ21.out.past hg9 (ZO.kinds HZ21.out hzo (by decide)))
     have HQ22 := hid (HQ21.out.past hzo (by decide) (by decide) hg9)
     have HG22 : Hid (GR seK x22 base 58 A5 (k + 1) c5 ((List.range (k + 1)).map eF)) := hid (by
      rw [HMk.out]
      exact GR.snoc hzo hlr hro ⟨Ax, nx, cx, HRk.out Ax nx cx, HBy.out ▸ HO21.out⟩ (by decide) ho9 hg9)
     clear ho9 hg9 hzo hlr hro HBs
     clear HM21 HG21 HZ21 HQ21 HO21 HN21
     repeat ((first | (refine chain_take rfl (by rfl) ?_ (fun W hG => ?_) ?_; rotate_left; (go_simp; rfl)) | refine chain_skip rfl (by rfl) ?_); simp only [Act.put, List.setIfInBounds_toArray, List.set_cons_zero, List.set_cons_succ])
     refine chain_only rfl (by rfl) (fun K hK => ?_)
     have c9 := HM22.out.m.at 9
     have s9 := HM22.out.m.soft 9
     go_simp
     refine hK _ _ (kept_set _ _ _ (fun h => HKg.out h)) ?_
     clear hK K c9 s9
     have e9 := setCell_eq_setRow x22 m 9 _ 32 (0, 0) (.slice A5 (k + 1) c5) HM22.out.m
     have HM23 := hid (HM22.out.setM HA.out #[g0, g1, g2, g3, g4, g5', g6, g7, .slice A2 P c2, .slice A5 (k + 1) c5, .int .i64 (I : Int)])
     have HG23 := hid (HG22.out.set HMb.out #[g0, g1, g2, g3, g4, g5', g6, g7, .slice A2 P c2, .slice A5 (k + 1) c5, .int .i64 (I : Int)])
     have HZ23 := hid (HZ22.out.other (HZ22.out.notb HMb.out) #[g0, g1, g2, g3, g4, g5', g6, g7, .slice A2 P c2, .slice A5 (k + 1) c5, .int .i64 (I : Int)])
     have HQ23 := hid (HQ22.out.set HMb.out #[g0, g1, g2, g3, g4, g5', g6, g7, .slice A2 P c2, .slice A5 (k + 1) c5, .int .i64 (I : Int)])
     rw [e9]
     clear e9
     clear HM22 HG22 HZ22 HQ22
     refine chain_done (tr_done ?_)
     have hk64 := HK64.out
     have hlt := HLt.out
     have hj65 : j ≤ 65 := by have := HJ.out; omega
     go_wp2
     go_roundw
     case rel => exact ⟨j + 1, k + 1, A5, c5, hid (by have := HJ.out; omega), hlt, by go_num, HM23.out, HZ23.out, HQ23.out, HG23.out, hid fun q hq => by
      rcases Nat.lt_or_ge q k with h | h
      ·exact HB.out q h
      ·rw [show q = k by omega, HBn.out]⟩
     case measure => simp [intOf]; have := HJ.out; omega
    case' B2 =>
     intro K hK
     go_simp
     refine (HFk.out _ HM1000.out.g HZ1000.out.zs).mono ?_
     rintro e x24 ⟨Ax, nx, cx, rfl, ho, hg⟩
     refine hK _ _ (Kept.of_grow hg) ?_
     clear hK K
     have HO24 := hid (ho.mono (HM1000.out.base_le HA.out))
     clear ho
     have HM24 := hid (HM1000.out.grow hg)
     have HG24 := hid (HG1000.out.keep hg)
     have HZ24 := hid (HZ1000.out.keep hg)
     have HQ24 := hid (HQ1000.out.keep hg)
     clear HM1000 HG1000 HZ1000 HQ1000
     clear hg
     refine tr_chain ?_
     repeat ((first | (refine chain_take rfl (by rfl) ?_ (fun W hG => ?_) ?_; rotate_left; (go_simp; rfl)) | refine chain_skip rfl (by rfl) ?_); simp only [Act.put, List.setIfInBounds_toArray, List.set_cons_zero, List.set_cons_succ])
     refine chain_done (tr_both (step_op rfl (by rfl) ?A3) (step_op rfl (by rfl) ?B3))
     case' A3 =>
      intro K hK
      have c8 := HM24.out.m.at 9
      go_simp
      refine hK _ _ ((leap_kept _).refl _) ?_
      clear hK K c8
      refine tr_chain ?_
      refine chain_only rfl (by rfl) (fun K hK => ?_)
      go_simp
      refine hK _ _ (Kept.of_grow (Grow.of_alloc _ _)) ?_
      clear hK K
      generalize hW : World.alloc _ _ = x25
      obtain ⟨bn, hg⟩ := blk1 hW
      clear hW
      have HN25 := hid bn
      clear bn
      have HM25 := hid (HM24.out.grow hg)
      have HG25 := hid (HG24.out.keep hg)
      have HZ25 := hid (HZ24.out.keep hg)
      have HQ25 := hid (HQ24.out.keep hg)
      have HO25 := hid (HO24.out.keep hg)
      clear HM24 HG24 HZ24 HQ24 HO24
      clear hg
      refine chain_only rfl (by rfl) (fun K hK => ?_)
      obtain ⟨Rw, hzo, hlr, hro⟩ := HG25.out
      have HBs := hid (HM25.out.base_le HA.out)
      refine wp_appendZ _ (.tmp 302) (.tmp 332) 30 rfl base 58 (.agg #[.int .u32 0, .int .u32 0, .int .u64 0, .int .u64 0, .int .u64 0, .int .u32 0, .int .u32 0, .int .u64 0, .int .u64 0, .int .i64 0, .int .u64 0, .int .u64 0, .slice none 0 0]) 13 104 Tryz.underlying30 (by kernel_rfl) rfl (by omega) As k cs Rw rfl hzo _ _ _ rfl HN25.out rfl (by simp [Value.oneCell']) (by have := HK64.out; unfold maxLen; omega) (by have := HK64.out; omega) HBs.out ?_
      intro A5 c5 x26 ho9 hg9 _
      refine hK _ _ (kept_row hg9 (fun i e => HKe.out Rw i hzo e)) ?_
      clear hK K
      have HM26 := hid (HM25.out.by_ HA.out hg9 (fun i e => hzo.ge e))
      have HZ26 := hid (HZ25.out.past hg9 (ZO.kinds HZ25.out hzo (by decide)))
      have HQ26 := hid (HQ25.out.past hzo (by decide) (by decide) hg9)
      have HG26 : Hid (GR seK x26 base 58 A5 (k + 1) c5 ((List.range (k + 1)).map eF)) := hid (by
       rw [HMk.out]
       exact GR.snoc hzo hlr hro ⟨Ax, nx, cx, HRk.out Ax nx cx, HBy.out ▸ HO25.out⟩ (by decide) ho9 hg9)
      clear ho9 hg9 hzo hlr hro HBs
      clear HM25 HG25 HZ25 HQ25 HO25 HN25
      repeat ((first | (refine chain_take rfl (by rfl) ?_ (fun W hG => ?_) ?_; rotate_left; (go_simp; rfl)) | refine chain_skip rfl (by rfl) ?_); simp only [Act.put, List.setIfInBounds_toArray, List.set_cons_zero, List.set_cons_succ])
      refine chain_only rfl (by rfl) (fun K hK => ?_)
      have c9 := HM26.out.m.at 9
      have s9 := HM26.out.m.soft 9
      go_simp
      refine hK _ _ (kept_set _ _ _ (fun h => HKg.out h)) ?_
      clear hK K c9 s9
      have e9 := setCell_eq_setRow x26 m 9 _ 32 (0, 0) (.slice A5 (k + 1) c5) HM26.out.m
      have HM27 := hid (HM26.out.setM HA.out #[g0, g1, g2, g3, g4, g5', g6, g7, .slice A2 P c2, .slice A5 (k + 1) c5, .int .i64 (I : Int)])
      have HG27 := hid (HG26.out.set HMb.out #[g0, g1, g2, g3, g4, g5', g6, g7, .slice A2 P c2, .slice A5 (k + 1) c5, .int .i64 (I : Int)])
      have HZ27 := hid (HZ26.out.other (HZ26.out.notb HMb.out) #[g0, g1, g2, g3, g4, g5', g6, g7, .slice A2 P c2, .slice A5 (k + 1) c5, .int .i64 (I : Int)])
      have HQ27 := hid (HQ26.out.set HMb.out #[g0, g1, g2, g3, g4, g5', g6, g7, .slice A2 P c2, .slice A5 (k + 1) c5, .int .i64 (I : Int)])
      rw [e9]
      clear e9
      clear HM26 HG26 HZ26 HQ26
      refine chain_done (tr_done ?_)
      have hk64 := HK64.out
      have hlt := HLt.out
      have hj65 : j ≤ 65 := by have := HJ.out; omega
      go_wp2
      go_roundw
      case rel => exact ⟨j + 1, k + 1, A5, c5, hid (by have := HJ.out; omega), hlt, by go_num, HM27.out, HZ27.out, HQ27.out, HG27.out, hid fun q hq => by
       rcases Nat.lt_or_ge q k with h | h
       ·exact HB.out q h
       ·rw [show q = k by omega, HBn.out]⟩
      case measure => simp [intOf]; have := HJ.out; omega
     case' B3 =>
      intro K hK
      go_simp
      refine hK _ _ (Kept.of_grow (Grow.of_alloc _ _)) ?_
      clear hK K
      generalize hW : World.alloc _ _ = x28
      obtain ⟨bn, hg⟩ := blk1 hW
      clear hW
      have HN28 := hid bn
      clear bn
      have HM28 := hid (HM24.out.grow hg)
      have HG28 := hid (HG24.out.keep hg)
      have HZ28 := hid (HZ24.out.keep hg)
      have HQ28 := hid (HQ24.out.keep hg)
      have HO28 := hid (HO24.out.keep hg)
      clear HM24 HG24 HZ24 HQ24 HO24
      clear hg
      refine tr_chain ?_
      refine chain_only rfl (by rfl) (fun K hK => ?_)
      have c8 := HM28.out.m.at 9
      go_simp
      refine hK _ _ ((leap_kept _).refl _) ?_
      clear hK K c8
      refine chain_only rfl (by rfl) (fun K hK => ?_)
      obtain ⟨Rw, hzo, hlr, hro⟩ := HG28.out
      have HBs := hid (HM28.out.base_le HA.out)
      refine wp_appendZ _ (.tmp 302) (.tmp 332) 30 rfl base 58 (.agg #[.int .u32 0, .int .u32 0, .int .u64 0, .int .u64 0, .int .u64 0, .int .u32 0, .int .u32 0, .int .u64 0, .int .u64 0, .int .i64 0, .int .u64 0, .int .u64 0, .slice none 0 0]) 13 104 Tryz.underlying30 (by kernel_rfl) rfl (by omega) As k cs Rw rfl hzo _ _ _ rfl HN28.out rfl (by simp [Value.oneCell']) (by have := HK64.out; unfold maxLen; omega) (by have := HK64.out; omega) HBs.out ?_
      intro A5 c5 x29 ho9 hg9 _
      refine hK _ _ (kept_row hg9 (fun i e => HKe.out Rw i hzo e)) ?_
      clear hK K
      have HM29 := hid (HM28.out.by_ HA.out hg9 (fun i e => hzo.ge e))
      have HZ29 := hid (HZ28.out.past hg9 (ZO.kinds HZ28.out hzo (by decide)))
      have HQ29 := hid (HQ28.out.past hzo (by decide) (by decide) hg9)
      have HG29 : Hid (GR seK x29 base 58 A5 (k + 1) c5 ((List.range (k + 1)).map eF)) := hid (by
       rw [HMk.out]
       exact GR.snoc hzo hlr hro ⟨Ax, nx, cx, HRk.out Ax nx cx, HBy.out ▸ HO28.out⟩ (by decide) ho9 hg9)
      clear ho9 hg9 hzo hlr hro HBs
      clear HM28 HG28 HZ28 HQ28 HO28 HN28
      repeat ((first | (refine chain_take rfl (by rfl) ?_ (fun W hG => ?_) ?_; rotate_left; (go_simp; rfl)) | refine chain_skip rfl (by rfl) ?_); simp only [Act.put, List.setIfInBounds_toArray, List.set_cons_zero, List.set_cons_succ])
      refine chain_only rfl (by rfl) (fun K hK => ?_)
      have c9 := HM29.out.m.at 9
      have s9 := HM29.out.m.soft 9
      go_simp
      refine hK _ _ (kept_set _ _ _ (fun h => HKg.out h)) ?_
      clear hK K c9 s9
      have e9 := setCell_eq_setRow x29 m 9 _ 32 (0, 0) (.slice A5 (k + 1) c5) HM29.out.m
      have HM30 := hid (HM29.out.setM HA.out #[g0, g1, g2, g3, g4, g5', g6, g7, .slice A2 P c2, .slice A5 (k + 1) c5, .int .i64 (I : Int)])
      have HG30 := hid (HG29.out.set HMb.out #[g0, g1, g2, g3, g4, g5', g6, g7, .slice A2 P c2, .slice A5 (k + 1) c5, .int .i64 (I : Int)])
      have HZ30 := hid (HZ29.out.other (HZ29.out.notb HMb.out) #[g0, g1, g2, g3, g4, g5', g6, g7, .slice A2 P c2, .slice A5 (k + 1) c5, .int .i64 (I : Int)])
      have HQ30 := hid (HQ29.out.set HMb.out #[g0, g1, g2, g3, g4, g5', g6, g7, .slice A2 P c2, .slice A5 (k + 1) c5, .int .i64 (I : Int)])
      rw [e9]
      clear e9
      clear HM29 HG29 HZ29 HQ29
      refine chain_done (tr_done ?_)
      have hk64 := HK64.out
      have hlt := HLt.out
      have hj65 : j ≤ 65 := by have := HJ.out; omega
      go_wp2
      go_roundw
      case rel => exact ⟨j + 1, k + 1, A5, c5, hid (by have := HJ.out; omega), hlt, by go_num, HM30.out, HZ30.out, HQ30.out, HG30.out, hid fun q hq => by
       rcases Nat.lt_or_ge q k with h | h
       ·exact HB.out q h
       ·rw [show q = k by omega, HBn.out]⟩
      case measure => simp [intOf]; have := HJ.out; omega
  ·have ek : k = S - 1 := by have := HJ.out; omega
   have d1 : decide ((j : Int) < (S : Int)) = false := decide_eq_false (by omega)
   have d1' : decide (j < S) = false := decide_eq_false hlt
   subst ek
   go_wp2
   apply HK.out
   exact HFin.out _ _ As cs ⟨rfl, rfl, rfl, rfl, rfl, rfl, rfl, rfl, rfl, rfl, rfl⟩ HM.out HQ.out HG.out HB.out
end Go.Proofs.YtlccbekalccahaaGreatDoor
