/-
  Several texts in one: The contract of the document's own Address; The contract of the document's own Bytes; The contract of the document's own Among.
-/
import Derived.Test.YtfpihkbpelbcbaaRtG18
import Derived.Test.YtfpihkbpelbcbaaRtG6
import Derived.Test.YtfpihkbpelbcbaaRtG17
import Derived.Test.YtfpihkbpelbcbaaRtG4
import Derived.Test.YtfpihkbpelbcbaaRtG10
namespace Go.Proofs.Ytfpihkbpelbcbaa
open Go.Lib (hid)
open Go.RowKit
set_option maxRecDepth 100000
set_option linter.unusedVariables false
theorem inMem_last {s : Sg} (ok : s.Ok) {a : Nat} (ha : a < 18446744073709551616) : s.inMem a = (decide (s.typ = 1) && (decide (0 < s.memsz) && (decide (s.vaddr ≤ a) && decide (a ≤ lastN s.vaddr s.memsz)))) := by
 have h1 := ok.vaddr
 have h2 := ok.memsz
 unfold Sg.inMem lastN
 rw [Bool.eq_iff_iff]
 simp only [Bool.and_eq_true, decide_eq_true_eq]
 omega
set_option maxHeartbeats 8000000 in
theorem rAddr_any (m : Md) (ok : m.Ok) (A1 : Option Addr) (n1 c1 : Nat) (A2 : Option Addr) (n2 c2 : Nat) (e : Dy) (he : e.Ok) (w : World) (g1 : ZR sgK w w.heap.size A1 n1 c1 m.segs) :
  Calls Try.prog 30 #[.agg (mdC m (.slice A1 n1 c1) (.slice A2 n2 c2)), .agg e.C] w fun e' w' => e' = .returned (.bool (m.isAd e)) ∧ Grow w w' := by
 have HS := hid g1
 have HL := hid g1.len
 have hval := he.val
 have HIn := hid (fun k (hk : k < m.segs.length) => inMem_last (ok.segs _ (List.getElem_mem hk)) hval)
 have HOk := hid (fun k (hk : k < m.segs.length) => ok.segs _ (List.getElem_mem hk))
 have HE : Hid (m.isAd e = (isAdT e.tag && m.segs.any fun s => s.inMem e.val)) := hid rfl
 have HT : Hid (isAdT e.tag = adTags.any fun x => decide (x = e.tag)) := hid rfl
 have hcc := g1.cap
 have hcm := g1.max
 unfold maxLen at hcm
 obtain ⟨x0, x1, x2, x3, x4, x5, x6, x7, x10, hC⟩ : ∃ x0 x1 x2 x3 x4 x5 x6 x7 x10 : Value, mdC m (.slice A1 n1 c1) (.slice A2 n2 c2) = #[x0, x1, x2, x3, x4, x5, x6, x7, .slice A1 n1 c1, .slice A2 n2 c2, x10] := ⟨_, _, _, _, _, _, _, _, _, rfl⟩
 rw [hC]
 unfold Dy.C
 clear hC g1 ok he
 generalize m.isAd e = R at *
 generalize e.tag = tg at *
 generalize e.val = vl at *
 generalize hin : (fun s : Sg => s.inMem vl) = inm at *
 have HInm : Hid (∀ s : Sg, s.inMem vl = inm s) := hid fun s => by rw [← hin]
 clear hin
 generalize m.segs = l at *
 generalize isAdT tg = at_ at *
 go_enter Try.func30, Try.ntmps30
 go_wp2_with fail
 generalize hW : World.alloc _ _ = W0
 obtain ⟨b1, b2, b3, hg0⟩ := blk3 hW
 clear hW
 obtain ⟨gm, hgm⟩ : ∃ g, g = w.heap.size := ⟨_, rfl⟩
 rw [← hgm] at b1 b2 b3 ⊢
 have HB0 := hid b1
 have HX0 := hid b2
 have HT0 := hid b3
 have HG0 := hid hg0
 clear b1 b2 b3 hg0 hgm
 generalize gm + 1 + 1 = gt at *
 generalize gm + 1 = gx at *
 have HTg : Hid (∀ k (hk : k < 16) W, Grow W0 W → W.cell? ⟨gt, k, none⟩ = some (.int .u64 ((adTags.getD k 0 : Nat) : Int))) := hid fun k hk W hW => by
  rw [(HT0.out.grow hW).at k]
  match k, hk with
  | 0, _ => rfl
  | 1, _ => rfl
  | 2, _ => rfl
  | 3, _ => rfl
  | 4, _ => rfl
  | 5, _ => rfl
  | 6, _ => rfl
  | 7, _ => rfl
  | 8, _ => rfl
  | 9, _ => rfl
  | 10, _ => rfl
  | 11, _ => rfl
  | 12, _ => rfl
  | 13, _ => rfl
  | 14, _ => rfl
  | 15, _ => rfl
  | n + 16, h => exact absurd h (by omega)
 have HTk : Hid (∀ k, k < 16 → (adTags.take (k + 1)).any (fun x => decide (x = tg)) = ((adTags.take k).any (fun x => decide (x = tg)) || decide (adTags.getD k 0 = tg))) := hid fun k hk => by
  have hl : k < adTags.length := hk
  rw [List.take_succ_eq_append_getElem hl, List.any_append, List.getD_eq_getElem?_getD, List.getElem?_eq_getElem hl]
  simp
 have HT1 : Hid ((adTags.take 0).any (fun x => decide (x = tg)) = false) := hid rfl
 have HT16 : Hid ((adTags.take 16).any (fun x => decide (x = tg)) = at_) := hid HT.out.symm
 generalize hTN : (fun k => (adTags.take k).any (fun x => decide (x = tg))) = TN at *
 have HTN : Hid (∀ k, (adTags.take k).any (fun x => decide (x = tg)) = TN k) := hid fun k => by rw [← hTN]
 simp only [HTN.out] at HTk HT1 HT16
 clear HT hTN HTN
 go_loopw [6, 7] (fun b i wr => ∃ k : Nat, k ≤ 16 ∧ i = .int .i64 k ∧ b = .bool (TN k) ∧ Grow W0 wr) (fun _ i _ => 16 - (intOf i).toNat)
 case atStart => exact ⟨0, Nat.zero_le _, rfl, by rw [HT1.out], Grow.refl _⟩
 case round =>
  obtain ⟨k, hk, rfl, rfl, hg⟩ := hrel
  have HG := hid hg
  clear hg
  by_cases hlt : k < 16
  ·have htg := HTg.out k hlt
   have HSu := hid (HTk.out k hlt)
   have HTg1 := hid htg
   have zk : IntKind.i64.wrap ((k : Int) + 1) = (k : Int) + 1 := by rw [IntKind.wrap_i64]; omega
   have i0 : (0 : Int) ≤ (k : Int) := by omega
   have i1 : (k : Int) < 16 := by omega
   have d1 : decide ((k : Int) < 16) = true := decide_eq_true i1
   clear htg
   generalize adTags.getD k 0 = tk at *
   generalize hTT : TN k = T at *
   have HX1 := hid (HX0.out.grow HG.out)
   cases T with
   | true =>
    have HN := hid (show TN (k + 1) = true by rw [HSu.out]; rfl)
    go_wp2_with fail
    refine wp_region_chain [(0, true), (1, true), (2, true), (3, true), (4, true), (5, true), (6, true), (7, true), (8, true), (9, true), (10, true)] (by kernel_rfl) (by kernel_rfl) (by kernel_rfl) ?_
    have HG2 : Hid (Grow W0 wr.drew) := hid (HG.out.trans (Grow.of_drew _))
    generalize wr.drew = V0 at *
    repeat ((first | (refine chain_take rfl (by rfl) ?_ (fun W hG => ?_) ?_; rotate_left; (go_simp; rfl)) | refine chain_skip rfl (by rfl) ?_); simp only [Act.put, List.setIfInBounds_toArray, List.set_cons_zero, List.set_cons_succ])
    refine chain_done ?_
    go_wp2
    go_roundw
    case rel => exact ⟨k + 1, by omega, by go_num, by rw [HN.out], HG2.out⟩
    case measure => simp [intOf]; omega
   | false =>
    have HN := hid (show TN (k + 1) = decide (tk = tg) by rw [HSu.out]; rfl)
    go_wp2_with fail
    refine wp_region_chain [(0, true), (1, true), (2, true), (3, true), (4, true), (5, true), (6, true), (7, true), (8, true), (9, true), (10, true)] (by kernel_rfl) (by kernel_rfl) (by kernel_rfl) ?_
    have HG2 : Hid (Grow W0 wr.drew) := hid (HG.out.trans (Grow.of_drew _))
    generalize wr.drew = V0 at *
    have q1 : ∀ W, Grow V0 W → W.cell? ⟨gt, k, none⟩ = some (.int .u64 (tk : Int)) := fun W hW => HTg1.out W (HG2.out.trans hW)
    have q2 : ∀ W, Grow V0 W → W.cell? ⟨gx, 0, none⟩ = some (.int .u64 (tg : Int)) := fun W hW => (HX0.out.grow (HG2.out.trans hW)).at 0
    repeat ((first | (refine chain_take rfl (by rfl) ?_ (fun W hG => ?_) ?_; rotate_left; (go_simp; rfl)) | refine chain_skip rfl (by rfl) ?_); simp only [Act.put, List.setIfInBounds_toArray, List.set_cons_zero, List.set_cons_succ])
    clear q1 q2
    refine chain_done ?_
    go_wp2
    go_roundw
    case rel => exact ⟨k + 1, by omega, by go_num, by rw [HN.out]; congr 1; rw [Bool.eq_iff_iff]; simp; try omega, HG2.out⟩
    case measure => simp [intOf]; omega
  ·have e : k = 16 := by omega
   subst e
   rw [HT16.out, show ((16 : Nat) : Int) = 16 from rfl]
   have HBw := hid (HB0.out.grow HG.out)
   have HXw := hid (HX0.out.grow HG.out)
   have HGw : Hid (Grow w wr) := hid (HG0.out.trans HG.out)
   clear HTg HTk HT1 HT16 HB0 HX0 HT0 HG0 HG
   go_wp2_with fail
   generalize hwq : wr = wq at HBw HXw HGw ⊢
   clear hwq
   go_loopw [8] (fun i wr => ∃ k : Nat, k ≤ n1 ∧ i = .int .i64 k ∧ Hid (at_ = true → ∀ s ∈ l.take k, inm s = false) ∧ Grow wq wr) (fun i _ => n1 - (intOf i).toNat)
   case atStart => exact ⟨0, Nat.zero_le _, rfl, hid fun _ s h => absurd h (by simp), Grow.refl _⟩
   case round =>
    obtain ⟨k, hk, rfl, hno, hg⟩ := hrel
    have HNo := hid hno.out
    have HG := hid hg
    have v8 : wr.cell? ⟨gm, 8, none⟩ = some (.slice A1 n1 c1) := (HBw.out.grow hg).at 8
    clear hno hg
    by_cases hlt : k < n1
    ·cases at_ with
     | false =>
      have hR := hid (show R = false from HE.out)
      go_wp2
      go_ret
      exact ⟨by rw [hR.out]; rfl, HGw.out.trans HG.out⟩
     | true =>
      obtain ⟨b, off, rfl, hb⟩ := HS.out.pos (by omega)
      have hkl : k < l.length := by rw [← HL.out]; exact hlt
      obtain ⟨RR, hR, hrow⟩ := (HS.out.belowAt (HGw.out.trans HG.out) (Nat.le_refl _)).row
      obtain ⟨hkR, A3, nk, ck, e1, hby⟩ := hrow k hkl
      obtain ⟨BB, hBB⟩ : ∃ BB, ZS wr BB 10 (some ⟨b, off, none⟩) n1 c1 RR := ⟨_, hR⟩
      have HRr := hid hBB
      have HkR := hid hkR
      have HE1 : Hid (∀ hk : k < RR.length, RR[k] = sgC l[k] (.slice A3 nk ck)) := hid fun _ => e1
      have hv := (HOk.out k hkl).vaddr
      have hmz := (HOk.out k hkl).memsz
      have HIk := hid (HIn.out k hkl)
      have HMem := hid (List.getElem_mem hkl)
      have HT' := hid (takeS l k hkl)
      rw [HInm.out] at HIk
      clear hR hkR e1 hrow hb hby hBB
      unfold sgC at HE1
      generalize l[k] = s at *
      have HYes : Hid (inm s = true → R = true) := hid fun h => by
       rw [HE.out, Bool.true_and, List.any_eq_true]
       exact ⟨s, HMem.out, h⟩
      have HNok : Hid (inm s = false → true = true → ∀ x ∈ l.take (k + 1), inm x = false) := hid fun h _ a ha => by
       rw [HT'.out] at ha
       rcases List.mem_append.1 ha with h1 | h1
       ·exact HNo.out rfl a h1
       ·obtain rfl : a = s := by simpa using h1
        exact h
      generalize inm s = is_ at *
      generalize s.typ = y0 at *
      generalize s.flags = y1 at *
      generalize s.vaddr = y2 at *
      generalize s.paddr = y3 at *
      generalize s.memsz = y4 at *
      generalize s.align = y5 at *
      generalize s.pl.inn = y6 at *
      generalize s.pl.off = y7 at *
      generalize s.pl.size = y8 at *
      clear HMem HT' HNo HOk HIn hkl HS HL HE HInm
      have w0 : (0 : Int) ≤ (k : Int) := by omega
      have w1 : (k : Int) < (n1 : Int) := by omega
      have zk : IntKind.i64.wrap ((k : Int) + 1) = (k : Int) + 1 := by rw [IntKind.wrap_i64]; omega
      go_wp2_with (first | (refine wpList_load_zs HRr.out HkR.out rfl 48 (.tmp 40) rfl rfl _ Try.underlying48 rfl (by kernel_rfl) _ (HE1.out _) ?_) | fail)
      generalize hW : World.alloc _ _ = W5
      obtain ⟨b5, hg5⟩ := blk1 hW
      clear hW v8
      have HS5 := hid b5.drew
      have HX5 := hid ((HXw.out.grow HG.out).grow hg5).drew
      have HG5 : Hid (Grow wq W5.drew) := hid ((HG.out.trans hg5).trans (Grow.of_drew _))
      clear b5 hg5 HRr HkR HE1 HG
      generalize wr.heap.size = gs at *
      by_cases hz : y0 = 1
      ·have e0 : ((y0 : Int) == 1) = true := by simp; omega
       by_cases hz2 : 0 < y4
       ·have e1 : decide ((0 : Int) < (y4 : Int)) = true := decide_eq_true (by omega)
        have e1' : decide (0 < y4) = true := decide_eq_true hz2
        by_cases hz3 : y2 ≤ vl
        ·have e2 : decide ((y2 : Int) ≤ (vl : Int)) = true := decide_eq_true (by omega)
         have e2' : decide (y2 ≤ vl) = true := decide_eq_true hz3
         have HLs := hid (fun W => refLast_any y2 y4 W hv hmz hz2)
         have HIs := hid (show is_ = decide (vl ≤ lastN y2 y4) by rw [HIk.out]; simp [hz, hz2, hz3])
         clear HIk hz hz2 hz3 hv hmz
         generalize lastN y2 y4 = la at *
         refine wp_region_chain [(0, true), (1, true), (2, true), (3, true), (4, true), (5, true), (6, true), (7, true), (8, true), (9, true), (10, true), (11, true), (12, true), (13, true), (14, true), (15, true), (16, true), (17, true), (18, true), (19, true), (20, true), (21, true), (22, false), (23, true), (24, true)] (by kernel_rfl) (by kernel_rfl) (by kernel_rfl) ?_
         generalize W5.drew = V0 at *
         have q1 : ∀ W, Grow V0 W → _ := fun W hW => (HS5.out.grow hW).c10
         have q2 : ∀ W, Grow V0 W → _ := fun W hW => (HX5.out.grow hW).c2
         repeat (first | (refine chain_take rfl (by rfl) ?_ (fun W hG => ?_) ?_; rotate_left; (obtain ⟨u0, u1, u2, u3, u4, u5, u6, u7, u8, u9⟩ := q1 W hG; obtain ⟨t0, t1⟩ := q2 W hG; go_simp; rfl); simp only [Act.put, List.setIfInBounds_toArray, List.set_cons_zero, List.set_cons_succ]) | (refine chain_skip rfl (by rfl) ?_; simp only [Act.put, List.setIfInBounds_toArray, List.set_cons_zero, List.set_cons_succ]))
         refine chain_only rfl (by rfl) (fun K hK => ?_)
         go_simp
         refine (HLs.out V0).mono ?_
         rintro e v1 ⟨rfl, rfl⟩
         refine hK _ _ (Grow.refl _) ?_
         clear hK K
         by_cases h4 : vl ≤ la
         ·have hR := hid (HYes.out (by rw [HIs.out]; exact decide_eq_true h4))
          have e4 : decide ((vl : Int) ≤ (la : Int)) = true := decide_eq_true (by omega)
          have e4' : decide (vl ≤ la) = true := decide_eq_true h4
          clear HYes HNok HIs h4
          repeat (first | (refine chain_take rfl (by rfl) ?_ (fun W hG => ?_) ?_; rotate_left; (obtain ⟨u0, u1, u2, u3, u4, u5, u6, u7, u8, u9⟩ := q1 W hG; obtain ⟨t0, t1⟩ := q2 W hG; go_simp; rfl); simp only [Act.put, List.setIfInBounds_toArray, List.set_cons_zero, List.set_cons_succ]) | (refine chain_skip rfl (by rfl) ?_; simp only [Act.put, List.setIfInBounds_toArray, List.set_cons_zero, List.set_cons_succ]))
          clear q1 q2
          refine chain_done ?_
          go_wp2
          go_ret
          exact ⟨by rw [hR.out]; rfl, HGw.out.trans HG5.out⟩
         ·have HNk := hid (HNok.out (by rw [HIs.out]; exact decide_eq_false h4))
          have e4 : decide ((vl : Int) ≤ (la : Int)) = false := decide_eq_false (by omega)
          have e4' : decide (vl ≤ la) = false := decide_eq_false h4
          clear HYes HNok HIs h4
          repeat (first | (refine chain_take rfl (by rfl) ?_ (fun W hG => ?_) ?_; rotate_left; (obtain ⟨u0, u1, u2, u3, u4, u5, u6, u7, u8, u9⟩ := q1 W hG; obtain ⟨t0, t1⟩ := q2 W hG; go_simp; rfl); simp only [Act.put, List.setIfInBounds_toArray, List.set_cons_zero, List.set_cons_succ]) | (refine chain_skip rfl (by rfl) ?_; simp only [Act.put, List.setIfInBounds_toArray, List.set_cons_zero, List.set_cons_succ]))
          clear q1 q2
          refine chain_done ?_
          go_wp2
          go_roundw
          case rel => exact ⟨k + 1, by omega, by go_num, hid HNk.out, HG5.out⟩
          case measure => simp [intOf]; omega
        ·have e2 : decide ((y2 : Int) ≤ (vl : Int)) = false := decide_eq_false (by omega)
         have e2' : decide (y2 ≤ vl) = false := decide_eq_false hz3
         have hN : is_ = false := by rw [HIk.out]; simp [hz3]
         have HNk := hid (HNok.out hN)
         clear HIk HYes HNok hN hz hz2 hz3
         refine wp_region_chain [(0, true), (1, true), (2, true), (3, true), (4, true), (5, true), (6, true), (7, true), (8, true), (9, true), (10, true), (11, true), (12, true), (13, true), (14, true), (15, true), (16, true), (17, true), (18, true), (19, true), (20, true), (21, true), (22, false), (23, true), (24, true)] (by kernel_rfl) (by kernel_rfl) (by kernel_rfl) ?_
         generalize W5.drew = V0 at *
         have q1 : ∀ W, Grow V0 W → _ := fun W hW => (HS5.out.grow hW).c10
         have q2 : ∀ W, Grow V0 W → _ := fun W hW => (HX5.out.grow hW).c2
         repeat (first | (refine chain_take rfl (by rfl) ?_ (fun W hG => ?_) ?_; rotate_left; (obtain ⟨u0, u1, u2, u3, u4, u5, u6, u7, u8, u9⟩ := q1 W hG; obtain ⟨t0, t1⟩ := q2 W hG; go_simp; rfl); simp only [Act.put, List.setIfInBounds_toArray, List.set_cons_zero, List.set_cons_succ]) | (refine chain_skip rfl (by rfl) ?_; simp only [Act.put, List.setIfInBounds_toArray, List.set_cons_zero, List.set_cons_succ]))
         refine chain_none rfl (by rfl) ?_
         simp only [Act.put, List.setIfInBounds_toArray, List.set_cons_zero, List.set_cons_succ]
         repeat (first | (refine chain_take rfl (by rfl) ?_ (fun W hG => ?_) ?_; rotate_left; (obtain ⟨u0, u1, u2, u3, u4, u5, u6, u7, u8, u9⟩ := q1 W hG; obtain ⟨t0, t1⟩ := q2 W hG; go_simp; rfl); simp only [Act.put, List.setIfInBounds_toArray, List.set_cons_zero, List.set_cons_succ]) | (refine chain_skip rfl (by rfl) ?_; simp only [Act.put, List.setIfInBounds_toArray, List.set_cons_zero, List.set_cons_succ]))
         clear q1 q2
         refine chain_done ?_
         go_wp2
         go_roundw
         case rel => exact ⟨k + 1, by omega, by go_num, hid HNk.out, HG5.out⟩
         case measure => simp [intOf]; omega
       ·have e1 : decide ((0 : Int) < (y4 : Int)) = false := decide_eq_false (by omega)
        have e1' : decide (0 < y4) = false := decide_eq_false hz2
        have hN : is_ = false := by rw [HIk.out]; simp [hz2]
        have HNk := hid (HNok.out hN)
        clear HIk HYes HNok hN hz hz2
        refine wp_region_chain [(0, true), (1, true), (2, true), (3, true), (4, true), (5, true), (6, true), (7, true), (8, true), (9, true), (10, true), (11, true), (12, true), (13, true), (14, true), (15, true), (16, true), (17, true), (18, true), (19, true), (20, true), (21, true), (22, false), (23, true), (24, true)] (by kernel_rfl) (by kernel_rfl) (by kernel_rfl) ?_
        generalize W5.drew = V0 at *
        have q1 : ∀ W, Grow V0 W → _ := fun W hW => (HS5.out.grow hW).c10
        have q2 : ∀ W, Grow V0 W → _ := fun W hW => (HX5.out.grow hW).c2
        repeat (first | (refine chain_take rfl (by rfl) ?_ (fun W hG => ?_) ?_; rotate_left; (obtain ⟨u0, u1, u2, u3, u4, u5, u6, u7, u8, u9⟩ := q1 W hG; obtain ⟨t0, t1⟩ := q2 W hG; go_simp; rfl); simp only [Act.put, List.setIfInBounds_toArray, List.set_cons_zero, List.set_cons_succ]) | (refine chain_skip rfl (by rfl) ?_; simp only [Act.put, List.setIfInBounds_toArray, List.set_cons_zero, List.set_cons_succ]))
        refine chain_none rfl (by rfl) ?_
        simp only [Act.put, List.setIfInBounds_toArray, List.set_cons_zero, List.set_cons_succ]
        repeat (first | (refine chain_take rfl (by rfl) ?_ (fun W hG => ?_) ?_; rotate_left; (obtain ⟨u0, u1, u2, u3, u4, u5, u6, u7, u8, u9⟩ := q1 W hG; obtain ⟨t0, t1⟩ := q2 W hG; go_simp; rfl); simp only [Act.put, List.setIfInBounds_toArray, List.set_cons_zero, List.set_cons_succ]) | (refine chain_skip rfl (by rfl) ?_; simp only [Act.put, List.setIfInBounds_toArray, List.set_cons_zero, List.set_cons_succ]))
        clear q1 q2
        refine chain_done ?_
        go_wp2
        go_roundw
        case rel => exact ⟨k + 1, by omega, by go_num, hid HNk.out, HG5.out⟩
        case measure => simp [intOf]; omega
      ·have e0 : ((y0 : Int) == 1) = false := by simp; omega
       have hN : is_ = false := by rw [HIk.out]; simp [hz]
       have HNk := hid (HNok.out hN)
       clear HIk HYes HNok hN hz
       refine wp_region_chain [(0, true), (1, true), (2, true), (3, true), (4, true), (5, true), (6, true), (7, true), (8, true), (9, true), (10, true), (11, true), (12, true), (13, true), (14, true), (15, true), (16, true), (17, true), (18, true), (19, true), (20, true), (21, true), (22, false), (23, true), (24, true)] (by kernel_rfl) (by kernel_rfl) (by kernel_rfl) ?_
       generalize W5.drew = V0 at *
       have q1 : ∀ W, Grow V0 W → _ := fun W hW => (HS5.out.grow hW).c10
       have q2 : ∀ W, Grow V0 W → _ := fun W hW => (HX5.out.grow hW).c2
       repeat (first | (refine chain_take rfl (by rfl) ?_ (fun W hG => ?_) ?_; rotate_left; (obtain ⟨u0, u1, u2, u3, u4, u5, u6, u7, u8, u9⟩ := q1 W hG; obtain ⟨t0, t1⟩ := q2 W hG; go_simp; rfl); simp only [Act.put, List.setIfInBounds_toArray, List.set_cons_zero, List.set_cons_succ]) | (refine chain_skip rfl (by rfl) ?_; simp only [Act.put, List.setIfInBounds_toArray, List.set_cons_zero, List.set_cons_succ]))
       refine chain_none rfl (by rfl) ?_
       simp only [Act.put, List.setIfInBounds_toArray, List.set_cons_zero, List.set_cons_succ]
       repeat (first | (refine chain_take rfl (by rfl) ?_ (fun W hG => ?_) ?_; rotate_left; (obtain ⟨u0, u1, u2, u3, u4, u5, u6, u7, u8, u9⟩ := q1 W hG; obtain ⟨t0, t1⟩ := q2 W hG; go_simp; rfl); simp only [Act.put, List.setIfInBounds_toArray, List.set_cons_zero, List.set_cons_succ]) | (refine chain_skip rfl (by rfl) ?_; simp only [Act.put, List.setIfInBounds_toArray, List.set_cons_zero, List.set_cons_succ]))
       clear q1 q2
       refine chain_done ?_
       go_wp2
       go_roundw
       case rel => exact ⟨k + 1, by omega, by go_num, hid HNk.out, HG5.out⟩
       case measure => simp [intOf]; omega
    ·have hR := hid (show R = false by
      rw [HE.out]
      cases at_ with
      | false => rfl
      | true =>
       have h := HNo.out rfl
       rw [List.take_of_length_le (by have := HL.out; omega)] at h
       rw [Bool.true_and, List.any_eq_false]
       intro s hs
       rw [h s hs]
       decide)
     go_wp2
     go_ret
     exact ⟨by rw [hR.out]; rfl, HGw.out.trans HG.out⟩
set_option maxRecDepth 100000
set_option linter.unusedVariables false
theorem cutK_any (kl kh : IntKind) {w : World} {B n c : Nat} {A : Option Addr} {l : List UInt8} (h : RB w B A n c l) {p m : Nat} (hp : p + m ≤ n) :
  ∃ A' c', (∀ W, (Instr.slice 44 (.slice A n c) (some (.int kl (p : Int))) (some (.int kh ((p : Int) + (m : Int)))) none).run Try.prog W = .ok (.slice A' m c') W) ∧ RB w B A' m c' ((l.drop p).take m) := by
 have hcap := h.cap
 have hmax := h.max
 have hz8 : ∀ W, (sizeOf (Try.prog.elem 44)).run Try.prog W = .ok 1 W := fun W => by kernel_rfl
 rcases A with _ | a
 ·have hn : n = 0 := by
   rcases Nat.eq_zero_or_pos n with h0 | h0
   ·exact h0
   ·obtain ⟨_, _, e, _⟩ := h.pos h0
    cases e
  subst hn
  obtain rfl : p = 0 := by omega
  obtain rfl : m = 0 := by omega
  have hl : l = [] := List.eq_nil_of_length_eq_zero h.len.symm
  subst hl
  refine ⟨none, c, fun W => ?_, ⟨rfl, hcap, hmax, fun h => absurd h (by omega)⟩⟩
  have := run_slice_lh (P := Try.prog) W 44 none 0 c (by kernel_rfl) kl kh 0 0 (by omega) (by omega) (by omega)
  rw [hz8] at this
  simp only [Int.natCast_zero, Int.add_zero] at this ⊢
  rw [this]
  simp [Result.andThen, sliced]
 ·refine ⟨some (cutA a c p), c - p, fun W => ?_, h.cut hp⟩
  have := run_cut_lh (P := Try.prog) 44 (by kernel_rfl) hz8 a n c kl kh p (p + m) (by omega) (by omega) W
  rw [show p + m - p = m by omega] at this
  simpa using this
set_option maxHeartbeats 2000000 in
theorem rBytes_any (m : Md) (A1 A2 : Option Addr) (n1 c1 n2 c2 : Nat) (p : Pl) (ok : p.Ok) (A : Option Addr) (n c : Nat) (w : World) (g1 : ZR sgK w w.heap.size A1 n1 c1 m.segs) (g : RB w w.heap.size A n c p.own) (hb : (m.bytes p).length ≤ 140737488355328) :
  Calls Try.prog 55 #[.agg (mdC m (.slice A1 n1 c1) (.slice A2 n2 c2)), .agg (plC p (.slice A n c))] w (NewB (m.bytes p) w) := by
 have hpo := ok.off
 have hps := ok.size
 have hpi := ok.inn
 unfold I64 at hpi
 have HO : Hid (∀ W, Grow w W → OB (W.alloc (.cells #[] 5)) w.heap.size 5 (some ⟨W.heap.size, 0, none⟩) 0 0 []) := hid fun W hW => OB.of_blk (base := w.heap.size) (l := []) (Blk.new W 5 #[]) hW.size (by decide)
 have HO2 : Hid (∀ o o', OB (((w.alloc o).alloc o').alloc (.cells #[] 5)) w.heap.size 5 (some ⟨w.heap.size + 1 + 1, 0, none⟩) 0 0 []) := hid fun o o' => by
  have h := HO.out _ ((Grow.of_alloc w o).trans (Grow.of_alloc _ o'))
  rwa [show ((w.alloc o).alloc o').heap.size = w.heap.size + 1 + 1 by simp] at h
 have HSz : Hid (∀ W, Grow w W → w.heap.size ≤ (W.alloc (.cells #[] 5)).heap.size) := hid fun W hW => by have := hW.size; simp; omega
 obtain ⟨x0, x1, x2, x3, x4, x5, x6, x7, x9, x10, hC⟩ := mdC_cells m (.slice A1 n1 c1) (.slice A2 n2 c2)
 by_cases h0 : p.inn = -1
 ·rw [bytes_own h0] at hb ⊢
  have hz : n ≤ 140737488355328 := by rw [g.len]; exact hb
  have HR : Hid (∀ W, Grow w W → RB (W.alloc (.cells #[] 5)) w.heap.size A n c p.own) := hid fun W hW => g.belowAt (hW.trans (Grow.of_alloc _ _)) (Nat.le_refl _)
  have HLn := hid g.len
  rw [hC]
  unfold plC
  rw [h0]
  generalize p.own = l at *
  generalize p.off = po
  generalize p.size = ps
  clear hC hb g g1 h0 hpo hps ok hpi
  go_enter Try.func55, Try.ntmps55
  go_wp2_with (at_builtin; refine wpList_appendB _ rfl (.tmp 10) (.tmp 12) 44 rfl w.heap.size 5 Try.underlying44 (by kernel_rfl) _ _ _ [] rfl (HO2.out _ _) w.heap.size _ n c l rfl (HR.out _ ((Grow.of_alloc _ _).trans (Grow.of_alloc _ _))) (by simpa using hz) (HSz.out _ ((Grow.of_alloc _ _).trans (Grow.of_alloc _ _))) ?_; intro A5 c5 w9 ho9 hb9; refine Hid.out ?_)
  have HO9 := hid ho9
  have HG9 : Hid (Grow w w9) := hid ((((Grow.of_alloc _ _).trans (Grow.of_alloc _ _)).trans (Grow.of_alloc _ _)).trans' hb9)
  rw [Nat.zero_add, List.nil_append] at HO9
  clear ho9 hb9 HO HR HSz
  refine hid ?_
  have e0 : 0 + n = n := Nat.zero_add _
  go_wp2
  go_ret
  exact ⟨A5, c5, by rw [← HLn.out]; first | rfl | (rw [Nat.zero_add]; rfl), by rw [← HLn.out]; exact HO9.out, HG9.out⟩
 ·have hl := g1.len
  rw [bytes_in h0, ← hl] at hb ⊢
  rw [hC]
  clear hC
  have Hi : (p.inn == -1) = false := by simpa using h0
  have hn1m := g1.cap
  have hn1m' := g1.max
  unfold maxLen at hn1m'
  cases hs : isSegN n1 p.inn with
  | false =>
   clear g g1 hb hpo hps ok hl
   simp only [Bool.false_and]
   unfold plC
   unfold isSegN at hs
   simp only [decide_eq_false_iff_not] at hs
   generalize p.inn = i at *
   generalize p.off = po
   generalize p.size = ps
   by_cases h1 : i < 0
   ·have d1 : decide (i < 0) = true := decide_eq_true h1
    clear hs h0
    go_enter Try.func55, Try.ntmps55
    go_wp2
    go_ret
    exact NewB.nil _ _ ((Grow.of_alloc _ _).trans (Grow.of_alloc _ _))
   ·have d1 : decide (i < 0) = false := decide_eq_false h1
    have d2 : decide ((n1 : Int) ≤ i) = true := decide_eq_true (by omega)
    clear hs h0
    go_enter Try.func55, Try.ntmps55
    go_wp2
    go_ret
    exact NewB.nil _ _ ((Grow.of_alloc _ _).trans (Grow.of_alloc _ _))
  | true =>
   obtain ⟨k, hk, hkl⟩ := isSegN_true hs
   rw [hl] at hkl
   rw [hs, hk, m.seg_nat k hkl, Bool.true_and] at hb
   rw [hk, m.seg_nat k hkl, Bool.true_and]
   obtain ⟨b, off, rfl, hbb⟩ := g1.pos (by rw [g1.len]; omega)
   obtain ⟨Ak, nk, ck, -, hcell, gk⟩ := g1.at hkl
   have T9 : Hid (w.cell? ⟨b, off + k * 10 + 9, none⟩ = some (.slice Ak nk ck)) := hid (hcell 9 _ rfl)
   have hnk : m.segs[k].pl.own.length = nk := gk.len.symm
   have hnkm : nk ≤ maxLen := Nat.le_trans gk.cap gk.max
   have hkn : k < n1 := by rw [g1.len]; exact hkl
   have HBb := hid (show b < w.heap.size from hbb)
   unfold maxLen at hnkm
   have gk' : RB w w.heap.size Ak nk ck m.segs[k].pl.own := gk
   rw [hnk] at hb ⊢
   obtain ⟨RS, hRS⟩ : ∃ RS, RS = if p.within nk = true then (m.segs[k].pl.own.drop p.off).take p.size else [] := ⟨_, rfl⟩
   rw [← hRS] at hb ⊢
   have E := hid (show p.within nk = decide (p.off + p.size ≤ nk) from rfl)
   unfold plC
   rw [hk]
   have e0 : ((k : Int) == -1) = false := by simp
   have d1 : decide ((k : Int) < 0) = false := decide_eq_false (by omega)
   have d2 : decide ((n1 : Int) ≤ (k : Int)) = false := decide_eq_false (by omega)
   have i0 : (0 : Int) ≤ (k : Int) := by omega
   have i1 : (k : Int) < (n1 : Int) := by omega
   generalize p.within nk = V at E hRS
   generalize p.off = po at E hpo hRS ⊢
   generalize p.size = ps at E hps hRS ⊢
   clear hcell
   generalize m.segs[k].pl.own = L at hRS gk gk' hnk
   have HRS := hid hRS
   clear hRS
   have GK := hid gk'
   have z0 : IntKind.u64.wrap (nk : Int) = (nk : Int) := by rw [IntKind.wrap_u64]; omega
   have E1 : Hid (wthn (po : Int) (ps : Int) (nk : Int) = V) := hid (by rw [E.out]; unfold wthn; rw [Bool.eq_iff_iff, decide_eq_true_iff, decide_eq_true_iff]; omega)
   have T9' : ∀ W, Grow w W → W.cell? ⟨b, off + k * 10 + 9, none⟩ = some (.slice Ak nk ck) := fun W hW => (Below.cell hW HBb.out).trans T9.out
   have t9 : ∀ o o', ((w.alloc o).alloc o').cell? ⟨b, off + k * 10 + 9, none⟩ = some (.slice Ak nk ck) := fun o o' => T9' _ ((Grow.of_alloc _ _).trans (Grow.of_alloc _ _))
   clear hs gk gk' hnk hk h0 g1 g hbb hl ok hkl hpi Hi T9'
   cases V with
   | false =>
    go_enter Try.func55, Try.ntmps55
    go_wp2_with fail
    refine (refWithin_any (po : Int) (ps : Int) (nk : Int) _ (by omega) (by omega) (by omega)).mono ?_
    rintro e w' ⟨rfl, rfl⟩
    rw [E1.out]
    go_wp2
    go_ret
    rw [HRS.out]
    exact NewB.nil _ _ ((Grow.of_alloc _ _).trans (Grow.of_alloc _ _))
   | true =>
    have hle : po + ps ≤ nk := by have := E.out; simpa using this.symm
    obtain ⟨A', c', hrun, hr⟩ := cutK_any .i64 .i64 GK.out hle
    have e1 : (L.drop po).take ps = RS := HRS.out.symm
    rw [e1] at hr
    have HRr : Hid (∀ W, Grow w W → RB (W.alloc (.cells #[] 5)) w.heap.size A' ps c' RS) := hid fun W hW => hr.belowAt (hW.trans (Grow.of_alloc _ _)) (Nat.le_refl _)
    have HLn := hid hr.len
    have hz : ps ≤ 140737488355328 := by rw [hr.len]; exact hb
    have z1 : IntKind.u64.wrap ((po : Int) + (ps : Int)) = (po : Int) + (ps : Int) := by rw [IntKind.wrap_u64]; omega
    have z2 : IntKind.i64.wrap (po : Int) = (po : Int) := by rw [IntKind.wrap_i64]; omega
    have z3 : IntKind.i64.wrap ((po : Int) + (ps : Int)) = (po : Int) + (ps : Int) := by rw [IntKind.wrap_i64]; omega
    clear hr hle hb hpo hps E GK e1 HRS
    go_enter Try.func55, Try.ntmps55
    go_wp2_with fail
    refine (refWithin_any (po : Int) (ps : Int) (nk : Int) _ (by omega) (by omega) (by omega)).mono ?_
    rintro e w' ⟨rfl, rfl⟩
    rw [E1.out]
    go_wp2_with (at_builtin; refine wpList_appendB _ rfl (.tmp 43) (.tmp 54) 44 rfl w.heap.size 5 Try.underlying44 (by kernel_rfl) _ _ _ [] rfl (HO2.out _ _) w.heap.size _ ps c' RS rfl (HRr.out _ ((Grow.of_alloc _ _).trans (Grow.of_alloc _ _))) (by simpa using hz) (HSz.out _ ((Grow.of_alloc _ _).trans (Grow.of_alloc _ _))) ?_; intro A5 c5 w9 ho9 hb9; refine Hid.out ?_)
    have HO9 := hid ho9
    have HG9 : Hid (Grow w w9) := hid ((((Grow.of_alloc _ _).trans (Grow.of_alloc _ _)).trans (Grow.of_alloc _ _)).trans' hb9)
    rw [Nat.zero_add, List.nil_append] at HO9
    clear ho9 hb9 HO HRr HSz hrun
    refine hid ?_
    go_wp2
    go_ret
    exact ⟨A5, c5, by rw [← HLn.out]; first | rfl | (rw [Nat.zero_add]; rfl), by rw [← HLn.out]; exact HO9.out, HG9.out⟩
set_option maxRecDepth 100000
set_option linter.unusedVariables false
def amE (x : Option (Nat × Nat)) : Ending := match x with
 | some y => .returned (.tuple #[.int .i64 (y.1 : Nat), .int .i64 (y.2 : Nat)])
 | none => .returned (.tuple #[.int .i64 (-1), .int .i64 0])
set_option maxHeartbeats 2000000 in
theorem rAmong_any (m : Md) (ok : m.Ok) (A1 A2 : Option Addr) (n1 c1 n2 c2 a n : Nat) (w : World) (g1 : ZR sgK w w.heap.size A1 n1 c1 m.segs) (ha : a < 18446744073709551616) (hn : n < 18446744073709551616) :
  Calls Try.prog 24 #[.agg (mdC m (.slice A1 n1 c1) (.slice A2 n2 c2)), .int .u64 (a : Int), .int .u64 (n : Int)] w fun e w' => e = amE (m.among a n) ∧ Grow w w' := by
 have HS := hid g1
 have HL := hid g1.len
 have HH := hid (among_hit m a n)
 have HO := hid (among_on m a n)
 have HE := hid (among_end m a n)
 have HOk := hid (fun k (hk : k < m.segs.length) => ok.segs _ (List.getElem_mem hk))
 have hcc := g1.cap
 have hcm := g1.max
 unfold maxLen at hcm
 obtain ⟨x0, x1, x2, x3, x4, x5, x6, x7, x10, hC⟩ : ∃ x0 x1 x2 x3 x4 x5 x6 x7 x10 : Value, mdC m (.slice A1 n1 c1) (.slice A2 n2 c2) = #[x0, x1, x2, x3, x4, x5, x6, x7, .slice A1 n1 c1, .slice A2 n2 c2, x10] := ⟨_, _, _, _, _, _, _, _, _, rfl⟩
 rw [hC]
 clear hC g1 ok
 generalize m.among a n = R at *
 generalize m.fnd a n = F at *
 generalize m.segs = l at *
 go_enter Try.func24, Try.ntmps24
 go_wp2_with fail
 generalize hW : World.alloc _ _ = W0
 obtain ⟨b1, hg0⟩ := blk1 hW
 clear hW
 have HB0 := hid b1
 have HG0 := hid hg0
 clear b1 hg0
 generalize w.heap.size = gm at HB0 ⊢
 go_loopw [8] (fun i wr => ∃ k : Nat, k ≤ n1 ∧ i = .int .i64 k ∧ k ≤ F ∧ Grow W0 wr) (fun i _ => n1 - (intOf i).toNat)
 case atStart => exact ⟨0, Nat.zero_le _, rfl, Nat.zero_le _, Grow.refl _⟩
 case round =>
  obtain ⟨k, hk, rfl, hkF, hg⟩ := hrel
  have HG := hid hg
  have HKF := hid hkF
  have v8 : wr.cell? ⟨gm, 8, none⟩ = some (.slice A1 n1 c1) := (HB0.out.grow hg).at 8
  have HGw : Hid (Grow w wr) := hid (HG0.out.trans hg)
  clear hg hkF
  by_cases hlt : k < n1
  ·obtain ⟨b, off, rfl, hb⟩ := HS.out.pos (by omega)
   have hkl : k < l.length := by rw [← HL.out]; exact hlt
   obtain ⟨RR, hR, hrow⟩ := (HS.out.belowAt HGw.out (Nat.le_refl _)).row
   obtain ⟨hkR, A1, nk, ck, e1, hby⟩ := hrow k hkl
   obtain ⟨BB, hBB⟩ : ∃ BB, ZS wr BB 10 (some ⟨b, off, none⟩) n1 c1 RR := ⟨_, hR⟩
   have HRr := hid hBB
   have HkR := hid hkR
   have HE1 : Hid (∀ hk : k < RR.length, RR[k] = sgC l[k] (.slice A1 nk ck)) := hid fun _ => e1
   have hnk : nk = l[k].pl.own.length := hby.len
   have hnm := Nat.le_trans hby.cap hby.max
   unfold maxLen at hnm
   have hv := (HOk.out k hkl).vaddr
   have HHk := hid (HH.out k hkl HKF.out)
   have HOk' := hid (HO.out k hkl HKF.out)
   have HD := hid (show l[k].has a n = (decide (l[k].typ = 1) && (decide (l[k].vaddr ≤ a) && decide (a - l[k].vaddr + n ≤ nk))) by rw [hnk]; rfl)
   clear hR hkR e1 hrow hb hby hnk HH HO HE HOk hBB
   generalize l[k].has a n = hs at *
   unfold sgC at HE1
   generalize l[k] = s at *
   generalize s.typ = y0 at *
   generalize s.flags = y1 at *
   generalize s.vaddr = y2 at *
   generalize s.paddr = y3 at *
   generalize s.memsz = y4 at *
   generalize s.align = y5 at *
   generalize s.pl.inn = y6 at *
   generalize s.pl.off = y7 at *
   generalize s.pl.size = y8 at *
   have w0 : (0 : Int) ≤ (k : Int) := by omega
   have w1 : (k : Int) < (n1 : Int) := by omega
   have z0 : IntKind.u64.wrap (nk : Int) = (nk : Int) := by rw [IntKind.wrap_u64]; omega
   have zk : IntKind.i64.wrap ((k : Int) + 1) = (k : Int) + 1 := by rw [IntKind.wrap_i64]; omega
   have HG3 : Hid (∀ o, Grow W0 (wr.alloc o)) := hid fun o => HG.out.trans (Grow.of_alloc _ _)
   cases hs with
   | true =>
    have HRv := hid (HHk.out rfl)
    have hd := HD.out
    simp only [Bool.true_eq, Bool.and_eq_true, decide_eq_true_eq] at hd
    obtain ⟨h1, h2, h3⟩ := hd
    have e0 : ((y0 : Int) != 1) = false := by simp; omega
    have e2 : decide ((a : Int) < (y2 : Int)) = false := decide_eq_false (by omega)
    have e3 : decide (a < y2) = false := decide_eq_false (by omega)
    have z1 : IntKind.u64.wrap ((a : Int) - (y2 : Int)) = ((a - y2 : Nat) : Int) := by rw [IntKind.wrap_u64]; omega
    have z2 : IntKind.i64.wrap ((a - y2 : Nat) : Int) = ((a - y2 : Nat) : Int) := by rw [IntKind.wrap_i64]; omega
    have E1 : Hid (wthn ((a - y2 : Nat) : Int) (n : Int) (nk : Int) = true) := hid (decide_eq_true (by omega))
    clear h1 h2 h3 HD HHk HOk' hv
    generalize a - y2 = ay at *
    go_wp2_with (refine wpList_load_zs HRr.out HkR.out rfl 48 (.tmp 21) rfl rfl _ Try.underlying48 rfl (by kernel_rfl) _ (HE1.out _) ?_)
    refine (refWithin_any (ay : Int) (n : Int) (nk : Int) _ (by omega) (by omega) (by omega)).mono ?_
    rintro e w' ⟨rfl, rfl⟩
    rw [E1.out]
    go_wp2_with fail
    generalize hW : World.alloc _ _ = W5
    obtain ⟨b5, hg5⟩ := blk1 hW
    clear hW
    have HG5 : Hid (Grow w W5.drew) := hid ((HGw.out.trans hg5).trans (Grow.of_drew _))
    have HB5 := hid b5.drew
    clear b5 hg5
    refine wp_region_chain [(0, true), (1, true), (2, true), (3, true), (4, true), (5, true), (6, true), (7, true)] (by kernel_rfl) (by kernel_rfl) (by kernel_rfl) ?_
    generalize W5.drew = V0 at *
    have q2 : ∀ W, Grow V0 W → W.cell? ⟨wr.heap.size, 2, none⟩ = some (.int .u64 (y2 : Int)) := fun W hW => (HB5.out.grow hW).at 2
    repeat (refine chain_take rfl (by rfl) ?_ (fun W hG => ?_) ?_; rotate_left; (go_simp; rfl); simp only [Act.put, List.setIfInBounds_toArray, List.set_cons_zero, List.set_cons_succ])
    refine chain_done ?_
    go_wp2
    go_ret2
    exact ⟨by rw [HRv.out]; rfl, HG5.out⟩
   | false =>
    have hK1 := hid (HOk'.out rfl)
    have hd := HD.out
    clear HD HHk HOk'
    by_cases h1 : y0 = 1
    ·have e0 : ((y0 : Int) != 1) = false := by simp; omega
     by_cases h2 : y2 ≤ a
     ·have h3 : ¬ (a - y2 + n ≤ nk) := by
       intro h3
       simp [h1, h2, h3] at hd
      have e2 : decide ((a : Int) < (y2 : Int)) = false := decide_eq_false (by omega)
      have e3 : decide (a < y2) = false := decide_eq_false (by omega)
      have z1 : IntKind.u64.wrap ((a : Int) - (y2 : Int)) = ((a - y2 : Nat) : Int) := by rw [IntKind.wrap_u64]; omega
      have E1 : Hid (wthn ((a - y2 : Nat) : Int) (n : Int) (nk : Int) = false) := hid (decide_eq_false (by omega))
      clear h1 h2 h3 hd hv
      generalize a - y2 = ay at *
      go_wp2_with (refine wpList_load_zs HRr.out HkR.out rfl 48 (.tmp 21) rfl rfl _ Try.underlying48 rfl (by kernel_rfl) _ (HE1.out _) ?_)
      refine (refWithin_any (ay : Int) (n : Int) (nk : Int) _ (by omega) (by omega) (by omega)).mono ?_
      rintro e w' ⟨rfl, rfl⟩
      rw [E1.out]
      go_wp2
      go_roundw
      case rel => exact ⟨k + 1, by omega, by go_num, hK1.out, HG3.out _⟩
      case measure => simp [intOf]; omega
     ·have e2 : decide ((a : Int) < (y2 : Int)) = true := decide_eq_true (by omega)
      have e3 : decide (a < y2) = true := decide_eq_true (by omega)
      clear h1 h2 hd hv
      go_wp2_with (refine wpList_load_zs HRr.out HkR.out rfl 48 (.tmp 21) rfl rfl _ Try.underlying48 rfl (by kernel_rfl) _ (HE1.out _) ?_)
      go_roundw
      case rel => exact ⟨k + 1, by omega, by go_num, hK1.out, HG3.out _⟩
      case measure => simp [intOf]; omega
    ·have e0 : ((y0 : Int) != 1) = true := by simp; omega
     clear h1 hd hv
     go_wp2_with (refine wpList_load_zs HRr.out HkR.out rfl 48 (.tmp 21) rfl rfl _ Try.underlying48 rfl (by kernel_rfl) _ (HE1.out _) ?_)
     go_roundw
     case rel => exact ⟨k + 1, by omega, by go_num, hK1.out, HG3.out _⟩
     case measure => simp [intOf]; omega
  ·have hR := hid (HE.out k (by rw [← HL.out]; omega) HKF.out)
   go_wp2
   go_ret2
   exact ⟨by rw [hR.out]; rfl, HGw.out⟩
end Go.Proofs.Ytfpihkbpelbcbaa
