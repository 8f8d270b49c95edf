/-
  Several texts in one: The contract of the document's own names; The contracts of the document's own Last, Below (layer 2) and Word; The contract of the document's own fit.
-/
import Derived.Test.YtfglppjilcaafaaGreatDoorTbH9
import Derived.Test.YtfglppjilcaafaaGreatDoorTbH31
import Derived.Test.YtfglppjilcaafaaGreatDoorTbH2
import Derived.Test.YtfglppjilcaafaaGreatDoorTbH4
import Derived.OwnWalk
import Derived.Test.YtfglppjilcaafaaGreatDoorTbH13
import Derived.Test.YtfglppjilcaafaaGreatDoorTbH7
namespace Go.Proofs.YtfglppjilcaafaaGreatDoor
open Go.Lib (hid)
open Go.RowKit
set_option maxHeartbeats 4000000 in
theorem rNames_any (m : Md) (ok : m.Ok) (A1 A2 : Option Addr) (n1 c1 n2 c2 : Nat) (w : World) (g2 : ZR seK w w.heap.size A2 n2 c2 m.secs) :
  Calls Tryz.prog 52 #[.agg (mdC m (.slice A1 n1 c1) (.slice A2 n2 c2))] w fun e w' => e = .returned (.int .i64 (m.namesC : Nat)) ∧ Grow w w' := by
 obtain ⟨x0, x1, x2, x3, x4, x5, x6, x7, hC⟩ : ∃ x0 x1 x2 x3 x4 x5 x6 x7 : Value, mdC m (.slice A1 n1 c1) (.slice A2 n2 c2) = #[x0, x1, x2, x3, x4, x5, x6, x7, .slice A1 n1 c1, .slice A2 n2 c2, .int .i64 m.str] := ⟨_, _, _, _, _, _, _, _, rfl⟩
 rw [hC]
 have hcm := g2.max
 have hcc := g2.cap
 have HL := hid g2.len
 have HZ := hid g2
 have HOk := hid ok.secs
 have EN := hid (show m.namesC = if m.str < 0 then 10 else if (n2 : Int) < m.str then 10 else if m.named then 0 else 9 by rw [HL.out]; rfl)
 unfold maxLen at hcm
 by_cases hneg : m.str < 0
 ·have E := hid (show m.namesC = 10 by rw [EN.out, if_pos hneg])
  have d : decide (m.str < 0) = true := decide_eq_true hneg
  generalize m.namesC = C at E ⊢
  generalize m.str = S at d ⊢
  clear EN hneg hC g2 ok HZ HL HOk
  go_enter Tryz.func52, Tryz.ntmps52
  go_wp2
  go_ret
  exact r_ret E.out _ rfl (Grow.of_alloc _ _)
 rw [if_neg hneg] at EN
 have dn : decide (m.str < 0) = false := decide_eq_false hneg
 by_cases hbig : (n2 : Int) < m.str
 ·have E := hid (show m.namesC = 10 by rw [EN.out, if_pos hbig])
  have d : decide ((n2 : Int) < m.str) = true := decide_eq_true hbig
  generalize m.namesC = C at E ⊢
  generalize m.str = S at d dn ⊢
  clear EN hneg hC g2 ok HZ HL HOk hbig
  go_enter Tryz.func52, Tryz.ntmps52
  go_wp2
  go_ret
  exact r_ret E.out _ rfl (Grow.of_alloc _ _)
 rw [if_neg hbig] at EN
 by_cases hs : m.str = 0
 ·have E := hid (show m.named = m.secs.all fun s => decide (s.name = 0) by unfold Md.named; rw [if_pos hs])
  rw [E.out] at EN
  rw [hs]
  have d0 : decide ((n2 : Int) < 0) = false := decide_eq_false (by omega)
  generalize m.namesC = C at EN ⊢
  generalize m.secs = L at HL HZ HOk EN
  clear hC g2 ok hs hneg hbig E dn
  go_enter Tryz.func52, Tryz.ntmps52
  go_wp2_with fail
  generalize hW : World.alloc _ _ = W0
  obtain ⟨b1, hg0⟩ := blk1 hW
  clear hW d0
  have HB := hid b1
  have HG0 := hid hg0
  clear b1 hg0
  go_loopw [3] (fun i wr => ∃ q : Nat, q ≤ n2 ∧ i = .int .i64 q ∧ (∀ s ∈ L.take q, s.name = 0) ∧ Grow W0 wr) (fun i _ => n2 - (intOf i).toNat)
  case atStart => exact ⟨0, by omega, rfl, fun s h => absurd h (by simp), Grow.refl _⟩
  case round =>
   obtain ⟨q, hq, rfl, hz, hg⟩ := hrel
   have HZ0 := hid hz
   have HG := hid hg
   have HB1 := hid (HB.out.grow hg)
   have y9 := HB1.out.at 9
   have y10 := HB1.out.at 10
   clear hz hg
   by_cases hlt : q < n2
   ·have hkl : q < L.length := by rw [← HL.out]; exact hlt
    obtain ⟨b, off, rfl, hb⟩ := HZ.out.pos (by omega)
    obtain ⟨Ak, nk, ck, -, hcell, -⟩ := HZ.out.at hkl
    have t0 : wr.cell? ⟨b, off + q * 13, none⟩ = some (.int .u32 (L[q].name : Nat)) := (Below.cell (HG0.out.trans HG.out) hb).trans (hcell 0 _ rfl)
    have HT := hid (takeS L q hkl)
    have HMem := hid (List.getElem_mem hkl)
    generalize L[q] = s at t0 HT HMem
    clear hcell hb hkl
    by_cases hn : s.name = 0
    ·have d : ((s.name : Int) != 0) = false := by simp [hn]
     have HZ1 : Hid (∀ s ∈ L.take (q + 1), s.name = 0) := hid fun a ha => by
      rw [HT.out] at ha
      rcases List.mem_append.1 ha with h | h
      ·exact HZ0.out a h
      ·obtain rfl : a = s := by simpa using h
       exact hn
     clear hn
     go_wp2
     go_roundw
     case rel => exact ⟨q + 1, by omega, by go_num, HZ1.out, HG.out⟩
     case measure => simp [intOf]; omega
    ·have d : ((s.name : Int) != 0) = true := by simp; omega
     have E := hid (show C = 9 by
      rw [EN.out, if_neg]
      intro h
      exact hn (by simpa using List.all_eq_true.1 h s HMem.out))
     clear hn
     go_wp2
     go_ret
     exact r_ret E.out _ rfl (HG0.out.trans HG.out)
   ·have hqn : q = n2 := by omega
    have E := hid (show C = 0 by
     rw [EN.out, if_pos]
     have h := HZ0.out
     rw [List.take_of_length_le (by have := HL.out; omega)] at h
     exact List.all_eq_true.2 fun s hs => by simp [h s hs])
    clear hqn
    go_wp2
    go_ret
    exact r_ret E.out _ rfl (HG0.out.trans HG.out)
 ·obtain ⟨k, hk⟩ : ∃ k : Nat, m.str = (k : Int) + 1 := ⟨(m.str - 1).toNat, by omega⟩
  have hkl : k < m.secs.length := by have := g2.len; omega
  have hkn : k < n2 := by omega
  have E0 := hid (show m.named = (decide (m.tab.typ = 3) && decide (m.tab.pl.inn = -1) && m.secs.all fun s => (nameAt m.tab.pl.own s.name).isSome) by unfold Md.named; rw [if_neg hs])
  rw [m.tab_at k hk hkl] at E0
  obtain ⟨b, off, rfl, hb⟩ := g2.pos (by omega)
  obtain ⟨At, nt, ct, -, hcell, gt⟩ := g2.at hkl
  have hcellT : ∀ i v, (seC m.secs[k] (.slice At nt ct))[i]? = some v → w.cell? ⟨b, off + k * 13 + i, none⟩ = some v := hcell
  have HGT : Hid (RB w w.heap.size At nt ct m.secs[k].pl.own) := hid gt
  have HBb := hid hb
  rw [hk]
  unfold seC at hcellT
  generalize m.secs[k] = t at E0 hcellT HGT
  have HT0 := hid hcellT
  have d0 : decide ((k : Int) + 1 < 0) = false := decide_eq_false (by omega)
  have d1 : decide ((n2 : Int) < (k : Int) + 1) = false := decide_eq_false (by omega)
  generalize m.secs = L at HL HZ HOk E0
  clear hC g2 ok hs hneg hbig dn hcell hcellT gt hkl hk hb
  have e1 : ((k : Int) + 1 == 0) = false := by simp; omega
  have e2 : IntKind.i64.wrap ((k : Int) + 1 - 1) = (k : Int) := by rw [IntKind.wrap_i64]; omega
  generalize m.named = R at E0 EN
  generalize m.namesC = C at EN ⊢
  go_enter Tryz.func52, Tryz.ntmps52
  go_wp2_with fail
  generalize hW : World.alloc _ _ = W0
  obtain ⟨b1, hg0⟩ := blk1 hW
  clear hW d0 d1
  have HB := hid b1
  have HG0 := hid hg0
  clear b1 hg0
  go_loopw [3] (fun i wr => ∃ q : Nat, q ≤ n2 ∧ i = .int .i64 q ∧ Grow W0 wr) (fun i _ => n2 - (intOf i).toNat)
  case atStart => exact ⟨0, by omega, rfl, Grow.refl _⟩
  case round =>
   obtain ⟨q, hq, rfl, hg⟩ := hrel
   have HG := hid hg
   have HB1 := hid (HB.out.grow hg)
   have y9 := HB1.out.at 9
   have y10 := HB1.out.at 10
   clear hg
   by_cases hlt : q < n2
   ·go_wp2
    go_roundw
    case rel => exact ⟨q + 1, by omega, by go_num, HG.out⟩
    case measure => simp [intOf]; omega
   ·have HcW : Hid (∀ i v, (seC t (.slice At nt ct))[i]? = some v → wr.cell? ⟨b, off + k * 13 + i, none⟩ = some v) := hid fun i v hv => (Below.cell (HG0.out.trans HG.out) HBb.out).trans (HT0.out i v hv)
    have hcW := HcW.out
    unfold seC at hcW
    have t0 : wr.cell? ⟨b, off + k * 13, none⟩ = _ := hcW 0 _ rfl
    have t1 := hcW 1 _ rfl
    have t2 := hcW 2 _ rfl
    have t3 := hcW 3 _ rfl
    have t4 := hcW 4 _ rfl
    have t5 := hcW 5 _ rfl
    have t6 := hcW 6 _ rfl
    have t7 := hcW 7 _ rfl
    have t8 := hcW 8 _ rfl
    have t9 := hcW 9 _ rfl
    have t10 := hcW 10 _ rfl
    have t11 := hcW 11 _ rfl
    have t12 := hcW 12 _ rfl
    clear hcW HcW HT0
    generalize t.pl.own = own at E0 HGT
    generalize t.typ = ty at E0 t1
    generalize t.pl.inn = pi at E0 t9
    by_cases h3 : ty ≠ 3
    ·have E := hid (show C = 9 by rw [EN.out, E0.out]; simp [h3])
     have d3 : ((ty : Int) != 3) = true := by simp; omega
     clear h3
     go_wp2
     go_ret
     exact r_ret E.out _ rfl ((HG0.out.trans HG.out).trans (Grow.of_alloc _ _))
    have h3 : ty = 3 := by omega
    by_cases hi : pi ≠ -1
    ·have E := hid (show C = 9 by rw [EN.out, E0.out]; simp [hi])
     have d3 : ((ty : Int) != 3) = false := by simp [h3]
     have di : (pi != -1) = true := by simpa using hi
     clear h3 hi
     go_wp2
     go_ret
     exact r_ret E.out _ rfl ((HG0.out.trans HG.out).trans (Grow.of_alloc _ _))
    have hi : pi = -1 := by omega
    have E := hid (show R = L.all fun s => (nameAt own s.name).isSome by rw [E0.out]; simp [h3, hi])
    have d3 : ((ty : Int) != 3) = false := by simp [h3]
    have di : (pi != -1) = false := by simp [hi]
    clear h3 hi E0
    go_wp2_with fail
    generalize hW : World.alloc _ _ = W1
    obtain ⟨b5, hg5⟩ := blk1 hW
    clear hW t0 t1 t2 t3 t4 t5 t6 t7 t8 t9 t10 t11 t12 d3 di e1 e2 y9 y10
    have HB5 := hid b5
    have HG5 : Hid (Grow w W1) := (HG0.out.trans HG.out).trans hg5
    have HGT1 := hid (HGT.out.grow HG5.out)
    have HB6 := hid (HB1.out.grow hg5)
    clear b5 hg5 HB1 HB HG
    generalize wr = wz at HB5 HB6
    go_loopw [5] (fun i wr => ∃ q : Nat, q ≤ n2 ∧ i = .int .i64 q ∧ (∀ s ∈ L.take q, (nameAt own s.name).isSome = true) ∧ Grow W1 wr) (fun i _ => n2 - (intOf i).toNat)
    case atStart => exact ⟨0, by omega, rfl, fun s h => absurd h (by simp), Grow.refl _⟩
    case round =>
     obtain ⟨p, hp, rfl, hz, hg⟩ := hrel
     have HZ0 := hid hz
     have HG := hid hg
     clear hz hg
     by_cases hlt : p < n2
     ·have hkl : p < L.length := by rw [← HL.out]; exact hlt
      obtain ⟨Ak, nk, ck, -, hcell, -⟩ := HZ.out.at hkl
      have HT := hid (takeS L p hkl)
      have hnm := (HOk.out _ (List.getElem_mem hkl)).name
      have HMem := hid (List.getElem_mem hkl)
      have hc0 : w.cell? ⟨b, off + p * 13, none⟩ = some (.int .u32 (L[p].name : Nat)) := hcell 0 _ rfl
      generalize L[p] = s at hc0 HT hnm HMem
      have HC0 := hid hc0
      clear hcell hc0 hkl
      have z : IntKind.u64.wrap (s.name : Int) = (s.name : Int) := by rw [IntKind.wrap_u64]; omega
      have y9 := (HB6.out.grow HG.out).at 9
      go_wp2_with fail
      refine wp_region_chain [(0, true), (1, true), (2, true), (3, true), (4, true), (5, true), (6, true), (7, true), (8, true), (9, true), (10, false), (11, true), (12, true), (13, true), (14, true), (15, true)] (by kernel_rfl) (by kernel_rfl) (by kernel_rfl) ?_
      have HD : Hid (Grow W1 wr.drew) := HG.out.trans (Grow.of_drew _)
      have q12 : ∀ W, Grow wr.drew W → W.cell? ⟨wz.heap.size, 12, none⟩ = some (.slice At nt ct) := fun W hW => (HB5.out.grow (HD.out.trans hW)).at 12
      have q9 : ∀ W, Grow wr.drew W → W.cell? ⟨w.heap.size, 9, none⟩ = some (.slice (some ⟨b, off, none⟩) n2 c2) := fun W hW => (HB6.out.grow (HD.out.trans hW)).at 9
      have t0 : ∀ W, Grow wr.drew W → W.cell? ⟨b, off + p * 13, none⟩ = some (.int .u32 (s.name : Nat)) := fun W hW => (Below.cell (HG5.out.trans (HD.out.trans hW)) HBb.out).trans HC0.out
      clear y9 HG
      generalize wr.drew = w2 at HD q12 q9 t0 ⊢
      repeat ((first | (refine chain_take rfl (by rfl) ?_ (fun W hG => ?_) ?_; rotate_left; (go_simp; rfl)) | refine chain_skip rfl (by rfl) ?_); simp only [Act.put, List.setIfInBounds_toArray, List.set_cons_zero, List.set_cons_succ])
      clear q12 q9 t0
      refine chain_only rfl (by rfl) (fun K hK => ?_)
      go_simp
      refine (rName_any At nt ct own s.name w2 (HGT1.out.grow HD.out) (by omega)).mono ?_
      unfold GotN
      rintro e w' ⟨rfl, rfl⟩
      refine hK _ _ (Grow.refl _) ?_
      clear hK K
      generalize bstr ((nameAt own s.name).getD []) = str
      obtain ⟨v, hv⟩ : ∃ v, (nameAt own s.name).isSome = v := ⟨_, rfl⟩
      rw [hv]
      repeat ((first | (refine chain_take rfl (by rfl) ?_ (fun W hG => ?_) ?_; rotate_left; (go_simp; rfl)) | refine chain_skip rfl (by rfl) ?_); simp only [Act.put, List.setIfInBounds_toArray, List.set_cons_zero, List.set_cons_succ])
      refine chain_done ?_
      cases v with
      | true =>
       have HZ1 : Hid (∀ s ∈ L.take (p + 1), (nameAt own s.name).isSome = true) := hid fun a ha => by
        rw [HT.out] at ha
        rcases List.mem_append.1 ha with h | h
        ·exact HZ0.out a h
        ·obtain rfl : a = s := by simpa using h
         exact hv
       clear hv
       go_wp2
       go_roundw
       case rel => exact ⟨p + 1, by omega, by go_num, HZ1.out, HD.out⟩
       case measure => simp [intOf]; omega
      | false =>
       have E9 := hid (show C = 9 by
        rw [EN.out, E.out, if_neg]
        intro h
        have := List.all_eq_true.1 h s HMem.out
        rw [hv] at this
        cases this)
       clear hv
       go_wp2
       go_ret
       exact r_ret E9.out _ rfl (HG5.out.trans HD.out)
     ·have E9 := hid (show C = 0 by
       rw [EN.out, E.out, if_pos]
       have h := HZ0.out
       rw [List.take_of_length_le (by have := HL.out; omega)] at h
       exact List.all_eq_true.2 h)
      have y9 := (HB6.out.grow HG.out).at 9
      go_wp2
      go_ret
      exact r_ret E9.out _ rfl (HG5.out.trans HG.out)
theorem refLast_any (a n : Nat) (w : World) (ha : a < 18446744073709551616) (hn : n < 18446744073709551616) (h0 : 0 < n) :
  Calls Tryz.prog 102 #[.int .u64 a, .int .u64 n] w fun e w' => e = .returned (.int .u64 (lastN a n : Nat)) ∧ w = w' := by
 rcases Nat.lt_trichotomy (a + n) 18446744073709551616 with h | h | h
 ·have E := hid (show lastN a n = a + n - 1 by unfold lastN; omega)
  have w1 : IntKind.u64.wrap ((a : Int) + n) = (a : Int) + n := by rw [IntKind.wrap_u64]; omega
  have w2 : IntKind.u64.wrap ((a : Int) + n - 1) = (a : Int) + n - 1 := by rw [IntKind.wrap_u64]; omega
  have d : decide ((a : Int) + n - 1 < a) = false := decide_eq_false (by omega)
  go_enter Tryz.func102, Tryz.ntmps102
  go_wp2
  go_ret
  exact ⟨ret_int (by rw [E.out]; omega), rfl⟩
 ·have E := hid (show lastN a n = 18446744073709551615 by unfold lastN; omega)
  have w1 : IntKind.u64.wrap ((a : Int) + n) = 0 := by rw [IntKind.wrap_u64]; omega
  have w2 : IntKind.u64.wrap (-1) = 18446744073709551615 := by decide +kernel
  have d : decide ((18446744073709551615 : Int) < a) = false := decide_eq_false (by omega)
  go_enter Tryz.func102, Tryz.ntmps102
  go_wp2
  go_ret
  exact ⟨ret_int (by rw [E.out]; rfl), rfl⟩
 ·have E := hid (show lastN a n = 18446744073709551615 by unfold lastN; omega)
  obtain ⟨r, hr⟩ : ∃ r : Nat, a + n = 18446744073709551616 + (r + 1) := ⟨a + n - 18446744073709551616 - 1, by omega⟩
  have w1 : IntKind.u64.wrap ((a : Int) + n) = r + 1 := by rw [IntKind.wrap_u64]; omega
  have w2 : IntKind.u64.wrap (r : Int) = r := by rw [IntKind.wrap_u64]; omega
  have d : decide ((r : Int) < a) = true := decide_eq_true (by omega)
  go_enter Tryz.func102, Tryz.ntmps102
  go_wp2
  go_ret
  exact ⟨ret_int (by rw [E.out]; rfl), rfl⟩
theorem refBelow_any (a n v : Nat) (w : World) (ha : a < 18446744073709551616) (hn : n < 18446744073709551616) :
  Calls Tryz.prog 50 #[.int .u64 a, .int .u64 n, .int .u64 v] w fun e w' => e = .returned (.bool (belowN a n v)) ∧ w = w' := by
 by_cases n0 : n = 0
 ·subst n0
  have E := hid (show belowN a 0 v = decide (a ≤ v) by simp [belowN])
  go_enter Tryz.func50, Tryz.ntmps50
  go_wp2
  go_ret
  exact ⟨ret_bool (by simp [E.out]), rfl⟩
 ·have E := hid (show belowN a n v = decide (lastN a n < v) by simp [belowN, n0])
  have d1 : ((n : Int) == 0) = false := by simp [n0]
  have hn0 := hid (Nat.pos_of_ne_zero n0)
  clear n0
  go_enter Tryz.func50, Tryz.ntmps50
  go_wp2_with (go_at_call 102; refine (refLast_any _ _ _ ha hn hn0.out).mono ?_; rintro e w' ⟨rfl, rfl⟩)
  go_ret
  exact ⟨ret_bool (by simp [E.out]), rfl⟩
theorem rfWord_any (wide big : Bool) (w : World) : Calls Tryz.prog 98 #[.agg #[.bool wide, .bool big]] w fun e w' => e = .returned (.int .i64 (byWide wide 4 8 : Nat)) ∧ Grow w w' := by
 cases wide
 ·go_enter Tryz.func98, Tryz.ntmps98
  go_wp2
  go_ret
  exact ⟨rfl, Grow.of_alloc _ _⟩
 ·go_enter Tryz.func98, Tryz.ntmps98
  go_wp2
  go_ret
  exact ⟨rfl, Grow.of_alloc _ _⟩
set_option maxHeartbeats 1000000 in
theorem rFit_any (wide big : Bool) (A : Option Addr) (n c : Nat) (l : List Nat) (w : World) (h : NS w w.heap.size .u64 A n c l) (hl : ∀ v ∈ l, v < 18446744073709551616) :
  Calls Tryz.prog 48 #[.agg #[.bool wide, .bool big], .slice A n c] w fun e w' => e = .returned (.bool (l.all (fitW wide))) ∧ Grow w w' := by
 have HS := hid h
 have HL := hid h.len
 have hcc := h.cap
 have hcm := h.max
 unfold maxLen at hcm
 have HM := hid hl
 have HW := hid (fun w => rfWord_any wide big w)
 clear h hl
 go_enter Tryz.func48, Tryz.ntmps48
 go_wp2_with fail
 generalize hW : World.alloc _ _ = W0
 obtain ⟨b1, hg0⟩ := blk1 hW
 clear hW
 have HF := hid b1
 have HG0 := hid hg0
 clear b1 hg0
 go_loopw [5] (fun i wr => ∃ k : Nat, k ≤ n ∧ i = .int .i64 k ∧ Hid (∀ v ∈ l.take k, fitW wide v = true) ∧ Grow W0 wr) (fun i _ => n - (intOf i).toNat)
 case atStart => exact ⟨0, by omega, rfl, hid (fun v h => absurd h (by simp)), Grow.refl _⟩
 case round =>
  obtain ⟨k, hk, rfl, HA, hg⟩ := hrel
  have HG := hid hg
  clear hg
  by_cases hlt : k < n
  ·have hkl : k < l.length := by rw [← HL.out]; exact hlt
   obtain ⟨b, off, rfl, hb, hcell⟩ := HS.out.pos (by omega)
   have HC := hid (hcell k hkl)
   have HBb := hid hb
   have HT := hid (takeS l k hkl)
   have HE := hid (fits_wide wide l[k])
   have HR := hid (fun w => refFits_any (l[k] : Int) (byWide wide 4 8 : Nat) w (by omega) (by have := HM.out _ (List.getElem_mem hkl); omega))
   have HMem := hid (List.getElem_mem hkl)
   generalize l[k] = v at HC HT HE HR HMem
   rw [HE.out] at HR
   clear hcell hb hkl
   go_wp2_with fail
   refine wp_region_chain [(0, true), (1, true), (2, true), (3, true), (4, true), (5, false), (6, false), (7, true)] (by kernel_rfl) (by kernel_rfl) (by kernel_rfl) ?_
   have HD : Hid (Grow W0 wr.drew) := HG.out.trans (Grow.of_drew _)
   have q : ∀ W, Grow wr.drew W → W.cell? ⟨b, off + k, none⟩ = some (.int .u64 (v : Int)) := fun W hW => (Below.cell (HG0.out.trans (HD.out.trans hW)) HBb.out).trans HC.out
   have u0 : ∀ W, Grow wr.drew W → W.cell? ⟨w.heap.size, 0, none⟩ = some (.bool wide) := fun W hW => (HF.out.grow (HD.out.trans hW)).at 0
   have u1 : ∀ W, Grow wr.drew W → W.cell? ⟨w.heap.size, 1, none⟩ = some (.bool big) := fun W hW => (HF.out.grow (HD.out.trans hW)).at 1
   clear HG
   generalize wr.drew = w2 at HD q u0 u1 ⊢
   repeat ((first | (refine chain_take rfl (by rfl) ?_ (fun W hG => ?_) ?_; rotate_left; (go_simp; rfl)) | refine chain_skip rfl (by rfl) ?_); simp only [Act.put, List.setIfInBounds_toArray, List.set_cons_zero, List.set_cons_succ])
   refine chain_only rfl (by rfl) (fun K hK => ?_)
   go_simp
   refine (HW.out _).mono ?_
   rintro e w3 ⟨rfl, hg3⟩
   refine hK _ _ hg3 ?_
   have HG3 : Hid (Grow W0 w3) := HD.out.trans hg3
   clear hK K hg3 q u0 u1 HD
   refine chain_only rfl (by rfl) (fun K hK => ?_)
   go_simp
   refine (HR.out _).mono ?_
   rintro e w4 ⟨rfl, rfl⟩
   refine hK _ _ (Grow.refl _) ?_
   clear hK K HR HE
   repeat ((first | (refine chain_take rfl (by rfl) ?_ (fun W hG => ?_) ?_; rotate_left; (go_simp; rfl)) | refine chain_skip rfl (by rfl) ?_); simp only [Act.put, List.setIfInBounds_toArray, List.set_cons_zero, List.set_cons_succ])
   refine chain_done ?_
   cases hf : fitW wide v with
   | false =>
    have E2 : Hid (l.all (fitW wide) = false) := hid (by
     rw [Bool.eq_false_iff]
     intro h
     have := List.all_eq_true.1 h v HMem.out
     rw [hf] at this
     cases this)
    clear hf
    go_wp2
    go_ret
    exact ⟨ret_bool E2.out.symm, HG0.out.trans HG3.out⟩
   | true =>
    have HA1 : Hid (∀ v ∈ l.take (k + 1), fitW wide v = true) := hid fun a ha => by
     rw [HT.out] at ha
     rcases List.mem_append.1 ha with h | h
     ·exact HA.out a h
     ·obtain rfl : a = v := by simpa using h
      exact hf
    clear hf
    go_wp2
    go_roundw
    case rel => exact ⟨k + 1, by omega, by go_num, HA1, HG3.out⟩
    case measure => simp [intOf]; omega
  ·have E2 : Hid (l.all (fitW wide) = true) := hid (by
    have e : l.take k = l := by rw [List.take_of_length_le (by have := HL.out; omega)]
    have := HA.out
    rw [e] at this
    exact List.all_eq_true.2 this)
   go_wp2
   go_ret
   exact ⟨ret_bool E2.out.symm, HG0.out.trans HG.out⟩
end Go.Proofs.YtfglppjilcaafaaGreatDoor
