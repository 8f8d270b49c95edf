/-
  Several texts in one: The contracts of file; The contract of sect.
-/
import Derived.Test.YtfbimboemahhhaaGreatDoorTfG29
import Derived.Test.YtfbimboemahhhaaGreatDoorTfG13
import Derived.Test.YtfbimboemahhhaaGreatDoorTfG22
import Derived.Lib.SmallJoins
namespace Go.Proofs.YtfbimboemahhhaaGreatDoor
open Go.Lib (hid)
open Go.RowKit
set_option maxRecDepth 100000
set_option linter.unusedVariables false
def scEf (wide : Bool) (sh N len : Nat) : Nat × Nat :=
 if sh = 0 then (if N ≠ 0 then (4, oSn wide) else (0, 0)) else if N = 0 ∨ 65 < N then (8, oSh wide) else if inB len sh (N * sSize wide) then (0, 0) else (5, oSh wide)
def pgEf (wide : Bool) (pn sh ph N len : Nat) : Nat × Nat :=
 if pn = 65535 ∧ sh = 0 then (4, oPn wide) else if 16 < N then (8, oPn wide) else if inB len ph (N * pSize wide) then (0, 0) else (5, oPh wide)
def ChkR (E : Nat × Nat) (w : World) (e : Ending) (w' : World) : Prop := ∃ v, e = .returned v ∧ Err w' v E.1 E.2 ∧ Grow w w'
theorem chk_no {E : Nat × Nat} {w w' : World} (hE : E = (0, 0)) (hg : Grow w w') : ChkR E w (.returned .nilIface) w' := ⟨_, rfl, by rw [hE]; exact .inl ⟨rfl, rfl, rfl⟩, hg⟩
theorem chk_yes {E : Nat × Nat} {w w' : World} {c p : Nat} {v : Value} (hE : E = (c, p)) (hc : 0 < c) (hs : Spt w' v c p) (hg : Grow w w') : ChkR E w (.returned v) w' := ⟨_, rfl, by rw [hE]; exact hs.err hc, hg⟩
set_option maxHeartbeats 4000000 in
theorem checkSects_any (h : Hd) (ok : h.Ok) (A : Option Addr) (n c N : Nat) (w : World) (hn : n ≤ maxLen) :
  Calls Tryz.prog 92 #[.slice A n c, h.V, .int .u64 (N : Int)] w (ChkR (scEf h.wide h.sh N n) w) := by
 obtain ⟨E, hE⟩ : ∃ E, scEf h.wide h.sh N n = E := ⟨_, rfl⟩
 have HP := hid (fun W => places_any h.wide h.big W)
 have HZ := hid (fun W => sSize_any h.wide h.big W)
 have HI := hid (fun m W => isIn_any A n c h.sh m W hn)
 rw [hE]
 unfold scEf at hE
 have hpn := ok.pn
 have HD : Hid (sSize h.wide ≤ 64) := hid (by cases h.wide <;> decide)
 obtain ⟨y2, y3, y4, y5, y6, y9, y11, y12, hC⟩ : ∃ y2 y3 y4 y5 y6 y9 y11 y12 : Value, h.C = #[.bool h.wide, .bool h.big, y2, y3, y4, y5, y6, .int .u64 (h.ph : Int), .int .u64 (h.sh : Int), y9, .int .u16 (h.pn : Int), y11, y12] := ⟨_, _, _, _, _, _, _, _, rfl⟩
 unfold Hd.V
 rw [hC]
 generalize h.wide = wide at HP HZ hE HD ⊢
 generalize h.big = big at HP HZ ⊢
 generalize h.sh = sh at HI hE ⊢
 generalize h.ph = ph at  ⊢
 generalize h.pn = pn at hpn  ⊢
 have HE := hid hE
 clear hC ok hE hn
 by_cases h0 : sh = 0
 ·have d0 : ((sh : Int) == 0) = true := by simp [h0]
  rw [if_pos h0] at HE
  by_cases h1 : N = 0
  ·have d1 : ((N : Int) != 0) = false := by simp [h1]
   rw [if_neg (by simpa using h1)] at HE
   clear h0 h1
   go_enter Tryz.func92, Tryz.ntmps92
   go_wp2
   go_ret
   exact chk_no HE.out.symm (blk2 rfl).2.2
  ·have d1 : ((N : Int) != 0) = true := by simp; omega
   rw [if_pos h1] at HE
   replace HE := hid HE.out.symm
   clear h0 h1
   go_enter Tryz.func92, Tryz.ntmps92
   go_wp2_with fail
   generalize hW : World.alloc _ _ = W0
   obtain ⟨b1, b2, hg0⟩ := blk2 hW
   clear hW
   have HB := hid b1
   have HF := hid b2
   have HG0 := hid hg0
   clear b1 b2 hg0
   refine (HP.out _).mono ?_
   rintro e wp ⟨rfl, hgp⟩
   have HGp := hid (HG0.out.trans hgp)
   clear hgp
   have nf0 := num_0
   have nf1 := num_1
   have nf2 := num_2
   have nf3 := num_3
   have nf4 := num_4
   go_wp2_with fail
   clear nf0 nf1 nf2 nf3 nf4
   refine (fspot_4 _ _).mono ?_
   rintro e wq ⟨bq, rfl, hs, hgq⟩
   have HSq := hid hs
   have HGq := hid (HGp.out.trans hgq)
   clear hs hgq
   go_wp2
   go_ret
   exact chk_yes HE.out (by decide) HSq.out HGq.out
 ·have d0 : ((sh : Int) == 0) = false := by simp; omega
  rw [if_neg h0] at HE
  by_cases h1 : N = 0 ∨ 65 < N
  ·rw [if_pos h1] at HE
   replace HE := hid HE.out.symm
   by_cases h2 : N = 0
   ·have d1 : ((N : Int) == 0) = true := by simp [h2]
    clear h0 h1 h2
    go_enter Tryz.func92, Tryz.ntmps92
    go_wp2_with fail
    generalize hW : World.alloc _ _ = W0
    obtain ⟨b1, b2, hg0⟩ := blk2 hW
    clear hW
    have HB := hid b1
    have HF := hid b2
    have HG0 := hid hg0
    clear b1 b2 hg0
    refine (HP.out _).mono ?_
    rintro e wp ⟨rfl, hgp⟩
    have HGp := hid (HG0.out.trans hgp)
    clear hgp
    have nf0 := num_0
    have nf1 := num_1
    have nf2 := num_2
    have nf3 := num_3
    have nf4 := num_4
    go_wp2_with fail
    clear nf0 nf1 nf2 nf3 nf4
    refine (fspot_8 _ _).mono ?_
    rintro e wq ⟨bq, rfl, hs, hgq⟩
    have HSq := hid hs
    have HGq := hid (HGp.out.trans hgq)
    clear hs hgq
    go_wp2
    go_ret
    exact chk_yes HE.out (by decide) HSq.out HGq.out
   ·have d1 : ((N : Int) == 0) = false := by simp; omega
    have d2 : decide ((65 : Int) < (N : Int)) = true := decide_eq_true (by omega)
    clear h0 h1 h2
    go_enter Tryz.func92, Tryz.ntmps92
    go_wp2_with fail
    generalize hW : World.alloc _ _ = W0
    obtain ⟨b1, b2, hg0⟩ := blk2 hW
    clear hW
    have HB := hid b1
    have HF := hid b2
    have HG0 := hid hg0
    clear b1 b2 hg0
    refine (HP.out _).mono ?_
    rintro e wp ⟨rfl, hgp⟩
    have HGp := hid (HG0.out.trans hgp)
    clear hgp
    have nf0 := num_0
    have nf1 := num_1
    have nf2 := num_2
    have nf3 := num_3
    have nf4 := num_4
    go_wp2_with fail
    clear nf0 nf1 nf2 nf3 nf4
    refine (fspot_8 _ _).mono ?_
    rintro e wq ⟨bq, rfl, hs, hgq⟩
    have HSq := hid hs
    have HGq := hid (HGp.out.trans hgq)
    clear hs hgq
    go_wp2
    go_ret
    exact chk_yes HE.out (by decide) HSq.out HGq.out
  ·rw [if_neg h1] at HE
   have d1 : ((N : Int) == 0) = false := by simp; omega
   have d2 : decide ((65 : Int) < (N : Int)) = false := decide_eq_false (by omega)
   have HN : Hid (N ≤ 65) := hid (by omega)
   clear h0 h1
   go_enter Tryz.func92, Tryz.ntmps92
   go_wp2_with fail
   refine wp_region_chain [(0, true), (1, true), (2, true), (3, true), (4, true), (5, false), (6, true), (7, true), (8, false), (9, true), (10, true)] (by kernel_rfl) (by kernel_rfl) (by kernel_rfl) ?_
   generalize hW : World.alloc _ _ = W0
   obtain ⟨b1, b2, hg0⟩ := blk2 hW
   clear hW
   have HB := hid b1.drew
   have HF := hid b2.drew
   have HG0 : Hid (Grow w W0.drew) := hid (hg0.trans (Grow.of_drew _))
   clear b1 b2 hg0
   generalize W0.drew = W1 at HB HF HG0 ⊢
   have q0 : ∀ W, Grow W1 W → W.cell? ⟨w.heap.size, 8, none⟩ = some (.int .u64 (sh : Int)) := fun W hW => (HB.out.grow hW).at 8
   have f0 : ∀ W, Grow W1 W → W.cell? ⟨w.heap.size + 1, 0, none⟩ = some (.bool wide) := fun W hW => (HF.out.grow hW).at 0
   have f1 : ∀ W, Grow W1 W → W.cell? ⟨w.heap.size + 1, 1, none⟩ = some (.bool big) := fun W hW => (HF.out.grow hW).at 1
   repeat ((first | (refine chain_take rfl (by rfl) ?_ (fun W hG => ?_) ?_; rotate_left; (go_simp; rfl)) | refine chain_skip rfl (by rfl) ?_); simp only [Act.put, List.setIfInBounds_toArray, List.set_cons_zero, List.set_cons_succ])
   clear q0 f0 f1
   refine chain_only rfl (by rfl) (fun K hK => ?_)
   go_simp
   refine (HZ.out _).mono ?_
   rintro e w2 ⟨rfl, hg⟩
   refine hK _ _ hg ?_
   clear hK K
   have HF2 := hid (HF.out.grow hg)
   have HG2 : Hid (Grow w w2) := hid (HG0.out.trans hg)
   clear hg HF HB HG0
   have hb := Nat.mul_le_mul HN.out HD.out
   have q1 : IntKind.u64.wrap (sSize wide : Int) = (sSize wide : Int) := by have := HD.out; rw [IntKind.wrap_u64]; omega
   have q2 : IntKind.u64.wrap ((N : Int) * (sSize wide : Int)) = ((N * sSize wide : Nat) : Int) := by
    have e1 : (N : Int) * (sSize wide : Int) = ((N * sSize wide : Nat) : Int) := by simp
    rw [e1, IntKind.wrap_u64]
    omega
   clear hb
   generalize N * sSize wide = M at q2 HE
   repeat ((first | (refine chain_take rfl (by rfl) ?_ (fun W hG => ?_) ?_; rotate_left; (go_simp; rfl)) | refine chain_skip rfl (by rfl) ?_); simp only [Act.put, List.setIfInBounds_toArray, List.set_cons_zero, List.set_cons_succ])
   clear q1 q2
   refine chain_only rfl (by rfl) (fun K hK => ?_)
   go_simp
   refine (HI.out M _).mono ?_
   rintro e w3 ⟨rfl, rfl⟩
   refine hK _ _ (Grow.refl _) ?_
   clear hK K
   repeat ((first | (refine chain_take rfl (by rfl) ?_ (fun W hG => ?_) ?_; rotate_left; (go_simp; rfl)) | refine chain_skip rfl (by rfl) ?_); simp only [Act.put, List.setIfInBounds_toArray, List.set_cons_zero, List.set_cons_succ])
   refine chain_done ?_
   cases hin : inB n sh M with
   | true =>
    rw [hin, if_pos rfl] at HE
    clear hin
    go_wp2
    go_ret
    exact chk_no HE.out.symm HG2.out
   | false =>
    rw [hin, if_neg (by decide)] at HE
    replace HE := hid HE.out.symm
    have f0 := HF2.out.at 0
    have f1 := HF2.out.at 1
    clear hin
    go_wp2_with fail
    clear f0 f1
    refine (HP.out _).mono ?_
    rintro e wp ⟨rfl, hgp⟩
    have HGp := hid (HG2.out.trans hgp)
    clear hgp
    have nf0 := num_0
    have nf1 := num_1
    have nf2 := num_2
    have nf3 := num_3
    have nf4 := num_4
    go_wp2_with fail
    clear nf0 nf1 nf2 nf3 nf4
    refine (fspot_5 _ _).mono ?_
    rintro e wq ⟨bq, rfl, hs, hgq⟩
    have HSq := hid hs
    have HGq := hid (HGp.out.trans hgq)
    clear hs hgq
    go_wp2
    go_ret
    exact chk_yes HE.out (by decide) HSq.out HGq.out
set_option maxHeartbeats 4000000 in
theorem checkProgs_any (h : Hd) (ok : h.Ok) (A : Option Addr) (n c N : Nat) (w : World) (hn : n ≤ maxLen) :
  Calls Tryz.prog 93 #[.slice A n c, h.V, .int .u64 (N : Int)] w (ChkR (pgEf h.wide h.pn h.sh h.ph N n) w) := by
 obtain ⟨E, hE⟩ : ∃ E, pgEf h.wide h.pn h.sh h.ph N n = E := ⟨_, rfl⟩
 have HP := hid (fun W => places_any h.wide h.big W)
 have HZ := hid (fun W => pSize_any h.wide h.big W)
 have HI := hid (fun m W => isIn_any A n c h.ph m W hn)
 rw [hE]
 unfold pgEf at hE
 have hpn := ok.pn
 have HD : Hid (pSize h.wide ≤ 64) := hid (by cases h.wide <;> decide)
 obtain ⟨y2, y3, y4, y5, y6, y9, y11, y12, hC⟩ : ∃ y2 y3 y4 y5 y6 y9 y11 y12 : Value, h.C = #[.bool h.wide, .bool h.big, y2, y3, y4, y5, y6, .int .u64 (h.ph : Int), .int .u64 (h.sh : Int), y9, .int .u16 (h.pn : Int), y11, y12] := ⟨_, _, _, _, _, _, _, _, rfl⟩
 unfold Hd.V
 rw [hC]
 generalize h.wide = wide at HP HZ hE HD ⊢
 generalize h.big = big at HP HZ ⊢
 generalize h.sh = sh at  hE ⊢
 generalize h.ph = ph at HI hE ⊢
 generalize h.pn = pn at hpn hE ⊢
 have HE := hid hE
 clear hC ok hE hn
 by_cases h0 : pn = 65535 ∧ sh = 0
 ·rw [if_pos h0] at HE
  replace HE := hid HE.out.symm
  have d0 : ((pn : Int) == 65535) = true := by have := h0.1; simp; omega
  have d1 : ((sh : Int) == 0) = true := by have := h0.2; simp; omega
  clear h0
  go_enter Tryz.func93, Tryz.ntmps93
  go_wp2_with fail
  generalize hW : World.alloc _ _ = W0
  obtain ⟨b1, b2, hg0⟩ := blk2 hW
  clear hW
  have HB := hid b1
  have HF := hid b2
  have HG0 := hid hg0
  clear b1 b2 hg0
  refine (HP.out _).mono ?_
  rintro e wp ⟨rfl, hgp⟩
  have HGp := hid (HG0.out.trans hgp)
  clear hgp
  have nf0 := num_0
  have nf1 := num_1
  have nf2 := num_2
  have nf3 := num_3
  have nf4 := num_4
  go_wp2_with fail
  clear nf0 nf1 nf2 nf3 nf4
  refine (fspot_4 _ _).mono ?_
  rintro e wq ⟨bq, rfl, hs, hgq⟩
  have HSq := hid hs
  have HGq := hid (HGp.out.trans hgq)
  clear hs hgq
  go_wp2
  go_ret
  exact chk_yes HE.out (by decide) HSq.out HGq.out
 ·rw [if_neg h0] at HE
  have d0 : (((pn : Int) == 65535) && ((sh : Int) == 0)) = false := by simp; omega
  have HD0 : ((pn : Int) == 65535) = false ∨ (((pn : Int) == 65535) = true ∧ ((sh : Int) == 0) = false) := by
   cases e : ((pn : Int) == 65535)
   ·exact .inl rfl
   ·rw [e] at d0; exact .inr ⟨rfl, d0⟩
  clear h0 d0
  by_cases h1 : 16 < N
  ·rw [if_pos h1] at HE
   replace HE := hid HE.out.symm
   have d2 : decide ((16 : Int) < (N : Int)) = true := decide_eq_true (by omega)
   clear h1
   rcases HD0 with d0 | ⟨d0, d1⟩
   ·skip
    go_enter Tryz.func93, Tryz.ntmps93
    go_wp2_with fail
    generalize hW : World.alloc _ _ = W0
    obtain ⟨b1, b2, hg0⟩ := blk2 hW
    clear hW
    have HB := hid b1
    have HF := hid b2
    have HG0 := hid hg0
    clear b1 b2 hg0
    refine (HP.out _).mono ?_
    rintro e wp ⟨rfl, hgp⟩
    have HGp := hid (HG0.out.trans hgp)
    clear hgp
    have nf0 := num_0
    have nf1 := num_1
    have nf2 := num_2
    have nf3 := num_3
    have nf4 := num_4
    go_wp2_with fail
    clear nf0 nf1 nf2 nf3 nf4
    refine (fspot_8 _ _).mono ?_
    rintro e wq ⟨bq, rfl, hs, hgq⟩
    have HSq := hid hs
    have HGq := hid (HGp.out.trans hgq)
    clear hs hgq
    go_wp2
    go_ret
    exact chk_yes HE.out (by decide) HSq.out HGq.out
   ·skip
    go_enter Tryz.func93, Tryz.ntmps93
    go_wp2_with fail
    generalize hW : World.alloc _ _ = W0
    obtain ⟨b1, b2, hg0⟩ := blk2 hW
    clear hW
    have HB := hid b1
    have HF := hid b2
    have HG0 := hid hg0
    clear b1 b2 hg0
    refine (HP.out _).mono ?_
    rintro e wp ⟨rfl, hgp⟩
    have HGp := hid (HG0.out.trans hgp)
    clear hgp
    have nf0 := num_0
    have nf1 := num_1
    have nf2 := num_2
    have nf3 := num_3
    have nf4 := num_4
    go_wp2_with fail
    clear nf0 nf1 nf2 nf3 nf4
    refine (fspot_8 _ _).mono ?_
    rintro e wq ⟨bq, rfl, hs, hgq⟩
    have HSq := hid hs
    have HGq := hid (HGp.out.trans hgq)
    clear hs hgq
    go_wp2
    go_ret
    exact chk_yes HE.out (by decide) HSq.out HGq.out
  ·rw [if_neg h1] at HE
   have d2 : decide ((16 : Int) < (N : Int)) = false := decide_eq_false (by omega)
   have HN : Hid (N ≤ 65) := hid (by omega)
   clear h1
   rcases HD0 with d0 | ⟨d0, d1⟩
   ·skip
    go_enter Tryz.func93, Tryz.ntmps93
    go_wp2_with fail
    refine wp_region_chain [(0, true), (1, true), (2, true), (3, true), (4, true), (5, false), (6, true), (7, true), (8, false), (9, true), (10, true)] (by kernel_rfl) (by kernel_rfl) (by kernel_rfl) ?_
    generalize hW : World.alloc _ _ = W0
    obtain ⟨b1, b2, hg0⟩ := blk2 hW
    clear hW
    have HB := hid b1.drew
    have HF := hid b2.drew
    have HG0 : Hid (Grow w W0.drew) := hid (hg0.trans (Grow.of_drew _))
    clear b1 b2 hg0
    generalize W0.drew = W1 at HB HF HG0 ⊢
    have q0 : ∀ W, Grow W1 W → W.cell? ⟨w.heap.size, 7, none⟩ = some (.int .u64 (ph : Int)) := fun W hW => (HB.out.grow hW).at 7
    have f0 : ∀ W, Grow W1 W → W.cell? ⟨w.heap.size + 1, 0, none⟩ = some (.bool wide) := fun W hW => (HF.out.grow hW).at 0
    have f1 : ∀ W, Grow W1 W → W.cell? ⟨w.heap.size + 1, 1, none⟩ = some (.bool big) := fun W hW => (HF.out.grow hW).at 1
    repeat ((first | (refine chain_take rfl (by rfl) ?_ (fun W hG => ?_) ?_; rotate_left; (go_simp; rfl)) | refine chain_skip rfl (by rfl) ?_); simp only [Act.put, List.setIfInBounds_toArray, List.set_cons_zero, List.set_cons_succ])
    clear q0 f0 f1
    refine chain_only rfl (by rfl) (fun K hK => ?_)
    go_simp
    refine (HZ.out _).mono ?_
    rintro e w2 ⟨rfl, hg⟩
    refine hK _ _ hg ?_
    clear hK K
    have HF2 := hid (HF.out.grow hg)
    have HG2 : Hid (Grow w w2) := hid (HG0.out.trans hg)
    clear hg HF HB HG0
    have hb := Nat.mul_le_mul HN.out HD.out
    have q1 : IntKind.u64.wrap (pSize wide : Int) = (pSize wide : Int) := by have := HD.out; rw [IntKind.wrap_u64]; omega
    have q2 : IntKind.u64.wrap ((N : Int) * (pSize wide : Int)) = ((N * pSize wide : Nat) : Int) := by
     have e1 : (N : Int) * (pSize wide : Int) = ((N * pSize wide : Nat) : Int) := by simp
     rw [e1, IntKind.wrap_u64]
     omega
    clear hb
    generalize N * pSize wide = M at q2 HE
    repeat ((first | (refine chain_take rfl (by rfl) ?_ (fun W hG => ?_) ?_; rotate_left; (go_simp; rfl)) | refine chain_skip rfl (by rfl) ?_); simp only [Act.put, List.setIfInBounds_toArray, List.set_cons_zero, List.set_cons_succ])
    clear q1 q2
    refine chain_only rfl (by rfl) (fun K hK => ?_)
    go_simp
    refine (HI.out M _).mono ?_
    rintro e w3 ⟨rfl, rfl⟩
    refine hK _ _ (Grow.refl _) ?_
    clear hK K
    repeat ((first | (refine chain_take rfl (by rfl) ?_ (fun W hG => ?_) ?_; rotate_left; (go_simp; rfl)) | refine chain_skip rfl (by rfl) ?_); simp only [Act.put, List.setIfInBounds_toArray, List.set_cons_zero, List.set_cons_succ])
    refine chain_done ?_
    cases hin : inB n ph M with
    | true =>
     rw [hin, if_pos rfl] at HE
     clear hin
     go_wp2
     go_ret
     exact chk_no HE.out.symm HG2.out
    | false =>
     rw [hin, if_neg (by decide)] at HE
     replace HE := hid HE.out.symm
     have f0 := HF2.out.at 0
     have f1 := HF2.out.at 1
     clear hin
     go_wp2_with fail
     clear f0 f1
     refine (HP.out _).mono ?_
     rintro e wp ⟨rfl, hgp⟩
     have HGp := hid (HG2.out.trans hgp)
     clear hgp
     have nf0 := num_0
     have nf1 := num_1
     have nf2 := num_2
     have nf3 := num_3
     have nf4 := num_4
     go_wp2_with fail
     clear nf0 nf1 nf2 nf3 nf4
     refine (fspot_5 _ _).mono ?_
     rintro e wq ⟨bq, rfl, hs, hgq⟩
     have HSq := hid hs
     have HGq := hid (HGp.out.trans hgq)
     clear hs hgq
     go_wp2
     go_ret
     exact chk_yes HE.out (by decide) HSq.out HGq.out
   ·skip
    go_enter Tryz.func93, Tryz.ntmps93
    go_wp2_with fail
    refine wp_region_chain [(0, true), (1, true), (2, true), (3, true), (4, true), (5, false), (6, true), (7, true), (8, false), (9, true), (10, true)] (by kernel_rfl) (by kernel_rfl) (by kernel_rfl) ?_
    generalize hW : World.alloc _ _ = W0
    obtain ⟨b1, b2, hg0⟩ := blk2 hW
    clear hW
    have HB := hid b1.drew
    have HF := hid b2.drew
    have HG0 : Hid (Grow w W0.drew) := hid (hg0.trans (Grow.of_drew _))
    clear b1 b2 hg0
    generalize W0.drew = W1 at HB HF HG0 ⊢
    have q0 : ∀ W, Grow W1 W → W.cell? ⟨w.heap.size, 7, none⟩ = some (.int .u64 (ph : Int)) := fun W hW => (HB.out.grow hW).at 7
    have f0 : ∀ W, Grow W1 W → W.cell? ⟨w.heap.size + 1, 0, none⟩ = some (.bool wide) := fun W hW => (HF.out.grow hW).at 0
    have f1 : ∀ W, Grow W1 W → W.cell? ⟨w.heap.size + 1, 1, none⟩ = some (.bool big) := fun W hW => (HF.out.grow hW).at 1
    repeat ((first | (refine chain_take rfl (by rfl) ?_ (fun W hG => ?_) ?_; rotate_left; (go_simp; rfl)) | refine chain_skip rfl (by rfl) ?_); simp only [Act.put, List.setIfInBounds_toArray, List.set_cons_zero, List.set_cons_succ])
    clear q0 f0 f1
    refine chain_only rfl (by rfl) (fun K hK => ?_)
    go_simp
    refine (HZ.out _).mono ?_
    rintro e w2 ⟨rfl, hg⟩
    refine hK _ _ hg ?_
    clear hK K
    have HF2 := hid (HF.out.grow hg)
    have HG2 : Hid (Grow w w2) := hid (HG0.out.trans hg)
    clear hg HF HB HG0
    have hb := Nat.mul_le_mul HN.out HD.out
    have q1 : IntKind.u64.wrap (pSize wide : Int) = (pSize wide : Int) := by have := HD.out; rw [IntKind.wrap_u64]; omega
    have q2 : IntKind.u64.wrap ((N : Int) * (pSize wide : Int)) = ((N * pSize wide : Nat) : Int) := by
     have e1 : (N : Int) * (pSize wide : Int) = ((N * pSize wide : Nat) : Int) := by simp
     rw [e1, IntKind.wrap_u64]
     omega
    clear hb
    generalize N * pSize wide = M at q2 HE
    repeat ((first | (refine chain_take rfl (by rfl) ?_ (fun W hG => ?_) ?_; rotate_left; (go_simp; rfl)) | refine chain_skip rfl (by rfl) ?_); simp only [Act.put, List.setIfInBounds_toArray, List.set_cons_zero, List.set_cons_succ])
    clear q1 q2
    refine chain_only rfl (by rfl) (fun K hK => ?_)
    go_simp
    refine (HI.out M _).mono ?_
    rintro e w3 ⟨rfl, rfl⟩
    refine hK _ _ (Grow.refl _) ?_
    clear hK K
    repeat ((first | (refine chain_take rfl (by rfl) ?_ (fun W hG => ?_) ?_; rotate_left; (go_simp; rfl)) | refine chain_skip rfl (by rfl) ?_); simp only [Act.put, List.setIfInBounds_toArray, List.set_cons_zero, List.set_cons_succ])
    refine chain_done ?_
    cases hin : inB n ph M with
    | true =>
     rw [hin, if_pos rfl] at HE
     clear hin
     go_wp2
     go_ret
     exact chk_no HE.out.symm HG2.out
    | false =>
     rw [hin, if_neg (by decide)] at HE
     replace HE := hid HE.out.symm
     have f0 := HF2.out.at 0
     have f1 := HF2.out.at 1
     clear hin
     go_wp2_with fail
     clear f0 f1
     refine (HP.out _).mono ?_
     rintro e wp ⟨rfl, hgp⟩
     have HGp := hid (HG2.out.trans hgp)
     clear hgp
     have nf0 := num_0
     have nf1 := num_1
     have nf2 := num_2
     have nf3 := num_3
     have nf4 := num_4
     go_wp2_with fail
     clear nf0 nf1 nf2 nf3 nf4
     refine (fspot_5 _ _).mono ?_
     rintro e wq ⟨bq, rfl, hs, hgq⟩
     have HSq := hid hs
     have HGq := hid (HGp.out.trans hgq)
     clear hs hgq
     go_wp2
     go_ret
     exact chk_yes HE.out (by decide) HSq.out HGq.out
def SGot (l : List UInt8) (p : Nat) (wide big : Bool) (w : World) (e : Ending) (w' : World) : Prop :=
 (p + sSize wide ≤ l.length ∧ e = .returned (.tuple #[(scOf l p wide big).V, .nilIface]) ∧ Grow w w') ∨
 (l.length < p + sSize wide ∧ e = .returned (.tuple #[sc0.V, .iface 86 (.int .i64 2)]) ∧ Grow w w')
theorem sz_sc (p : Sc) : (Tryz.prog.info? 172).map (·.size) = some p.C.size := by kernel_rfl
theorem Blk.putS {w : World} {g : Nat} {t : TypeId} {l : List Nat} (h : Blk w g t (u64s l)) (i x : Nat) : Blk (w.setCell ⟨g, i, none⟩ (.int .u64 (x : Int))) g t (u64s (l.set i x)) := by
 have := Joins.block_setCell (i := i) h (.int .u64 (x : Int))
 rw [Blk, this]
 simp [u64s, List.map_set]
theorem sgot_ret {K : Ending → World → Prop} {W : World} {tmps : Array Value} {g : Nat} {err : Value} {t : TypeId} {h : Sc} (ht : tmps.getD 6 undef = .pointer (some ⟨g, 0, none⟩)) (he : tmps.getD 7 undef = err)
  (hx : Blk W g t h.C) (hk : K (.returned (.tuple #[h.V, err])) W) : bodyPost Tryz.prog Tryz.f89 K .ret ⟨tmps, []⟩ W := by
 refine bodyPost_ret (v := .tuple #[h.V, err]) ?_ rfl hk
 rw [results_cell_tmp rfl, ht, he]
 simp [asAddr, Result.andThen, hx.var _ _ Tryz.underlying172 rfl (by kernel_rfl)]
 rfl
set_option maxHeartbeats 400000 in
theorem sGet_any (A : Option Addr) (n c : Nat) (l : List UInt8) (p : Nat) (wide big : Bool) (w : World) (h : RB w w.heap.size A n c l) (hp : p < 18446744073709551616) :
  Calls Tryz.prog 89 #[.slice A n c, .int .u64 p, .agg #[.bool wide, .bool big]] w (SGot l p wide big w) := by
 have HR := hid h
 have HLen := hid h.len
 have hcp := h.cap
 have hmx := h.max
 unfold maxLen at hmx
 clear h
 have HSz := hid (fun w => sSize_any wide big w)
 have HWi := hid (fun i w => sWid_any wide big i w)
 have HAt : Hid (∀ k, (scOf l p wide big).N.getD k 0 = (sX l p wide big).getD k 0) := hid (fun k => by rw [scOf_N])
 have HNA : Hid (∀ k, k < 10 → (sX l p wide big).getD k 0 = getB ((l.drop (p + sumN ((sRow wide).take k))).take (sWid wide k)) big) := hid (fun k hk => by
  have h1 : k < (sRow wide).length := by rw [len_sRow]; exact hk
  have := nums_at l big (sRow wide) p k h1
  rw [sX, List.getD_eq_getElem?_getD, this, ← sRow_at wide k hk, List.getD_eq_getElem?_getD, List.getElem?_eq_getElem h1]
  rfl)
 have HSu : Hid (∀ k, k < 10 → sumN ((sRow wide).take (k + 1)) = sumN ((sRow wide).take k) + sWid wide k) := hid (fun k hk => by
  have h1 : k < (sRow wide).length := by rw [len_sRow]; exact hk
  rw [sumN_succ _ k h1, ← sRow_at wide k hk, List.getD_eq_getElem?_getD, List.getElem?_eq_getElem h1]
  rfl)
 have HSl : Hid (∀ k, sumN ((sRow wide).take k) ≤ sSize wide) := hid (fun k => by rw [← sum_sRow]; exact sumN_le _ _)
 have HWw := hid (sWid_wid wide)
 have HHd : Hid (∀ w, Calls Tryz.prog 133 #[.agg (u64s (scOf l p wide big).N)] w fun e w' => e = .returned (scOf l p wide big).V ∧ Grow w w') := hid (fun w =>
  have ok := scOf_ok l p wide big
  sHdr_any _ _ _ _ _ _ _ _ _ _ w ok.na ok.ty ok.li ok.inf)
 have HAll : Hid (laidUp (scOf l p wide big).N 10 10 = (scOf l p wide big).N) := hid (laidUp_all rfl)
 have HSp : Hid (sSize wide ≤ 64) := by cases wide <;> exact hid (by decide)
 have HC : Hid ((scOf l p wide big).C.size = 10) := hid rfl
 have HC1 := hid (scOf l p wide big).one
 unfold SGot
 generalize hpg : scOf l p wide big = pg at HAt HHd HAll HC HC1 ⊢
 clear hpg
 generalize sX l p wide big = xs at HAt HNA
 generalize sRow wide = row at HNA HSu HSl
 generalize sSize wide = sz at HSz HSp HSl ⊢
 generalize hns : pg.N = ns at HAt HHd HAll
 have HVC : Hid (pg.V = .agg pg.C) := hid rfl
 clear hns
 go_enter Tryz.func89, Tryz.ntmps89
 go_wp2_with fail
 generalize hW : World.alloc _ _ = W0
 obtain ⟨bf, b6, hg0⟩ := blk2 hW
 clear hW
 refine (HSz.out W0).mono ?_
 rintro e w1 ⟨rfl, hg1⟩
 have HBF1 := hid (bf.grow hg1)
 have HB61 : Hid (Blk w1 (w.heap.size + 1) 172 sc0.C) := b6.grow hg1
 have HG1 : Hid (Grow w w1) := hg0.trans hg1
 clear bf b6 hg0 hg1
 have z1 : IntKind.u64.wrap (sz : Int) = (sz : Int) := by rw [IntKind.wrap_u64]; have := HSp.out; omega
 have z2 : IntKind.u64.wrap (n : Int) = (n : Int) := by rw [IntKind.wrap_u64]; omega
 go_wp2_with fail
 refine (within_any p sz n _ (by omega) (by omega) (by omega)).mono ?_
 rintro e w2 ⟨rfl, rfl⟩
 have hwt : wthn (p : Int) (sz : Int) (n : Int) = decide (p + sz ≤ l.length) := by
  have e := HLen.out
  simp only [wthn]
  rw [Bool.eq_iff_iff, decide_eq_true_iff, decide_eq_true_iff]; omega
 rw [hwt]
 clear hwt z1 z2
 by_cases hin : p + sz ≤ l.length
 ·rw [decide_eq_true hin]
  have HIn := hid hin
  have HS1 := HSp.out
  have HSl2 : Hid (∀ k, p + sumN (row.take k) ≤ n) := hid (fun k => by have := HSl.out k; have := HLen.out; omega)
  clear hin
  go_wp2_with fail
  have hb8 : Blk (w1.alloc (.cells (u64s (List.replicate 10 0)) 231)) w1.heap.size 231 (u64s (List.replicate 10 0)) := Blk.new w1 231 (u64s (List.replicate 10 0))
  rw [← laidUp_zero ns 10] at hb8
  have HB8 := hid hb8
  have HBF3 := hid (HBF1.out.alloc (.cells (u64s (laidUp ns 10 0)) 231))
  have HB63 := hid (HB61.out.alloc (.cells (u64s (laidUp ns 10 0)) 231))
  have HG3 : Hid (Grow w (w1.alloc (.cells (u64s (laidUp ns 10 0)) 231))) := HG1.out.trans (Grow.of_alloc _ _)
  have HG8 : Hid (w.heap.size + 1 < w1.heap.size) := HB61.out.lt
  rw [show (#[.int .u64 0, .int .u64 0, .int .u64 0, .int .u64 0, .int .u64 0, .int .u64 0, .int .u64 0, .int .u64 0, .int .u64 0, .int .u64 0] : Array Value) = u64s (laidUp ns 10 0) by rw [laidUp_zero]; rfl]
  rw [laidUp_zero] at HB8
  rw [← laidUp_zero ns 10] at HB8
  generalize w1.alloc _ = w3 at HB8 HBF3 HB63 HG3 ⊢
  generalize w1.heap.size = g8 at HB8 HG8 ⊢
  clear hb8 HBF1 HB61 HG1
  go_loopw [1, 22] (fun a i wr => ∃ (k q : Nat), k ≤ 10 ∧ i = .int .i64 k ∧ a = .int .u64 q ∧ q = p + sumN (row.take k) ∧ Blk wr w.heap.size 23 #[.bool wide, .bool big] ∧ Blk wr (w.heap.size + 1) 172 sc0.C ∧ Blk wr g8 231 (u64s (laidUp ns 10 k)) ∧ Grow w wr) (fun _ i _ => 10 - (intOf i).toNat)
  case atStart => exact ⟨0, p, by omega, rfl, rfl, rfl, HBF3.out, HB63.out, HB8.out, HG3.out⟩
  case round =>
   obtain ⟨k, q, hk, rfl, rfl, hq, hbf, hb6, hb8, hg⟩ := hrel
   have HBF := hid hbf
   have HB6 := hid hb6
   have HB8k := hid hb8
   have HG := hid hg
   have HQ := hid hq
   have hqn : q ≤ n := by rw [hq]; exact HSl2.out k
   clear hbf hb6 hb8 hg hq HBF3 HB63 HB8 HG3
   by_cases hlt : k < 10
   ·have HAk := hid (HAt.out k)
    have HNk := hid (HNA.out k hlt)
    have HSk := hid (HSu.out k hlt)
    rw [← HQ.out] at HNk
    have HW2 := hid (fun w => HWi.out k w)
    have HWk := hid (HWw.out k)
    have hqm : q + sWid wide k ≤ n := by rw [HQ.out, Nat.add_assoc, ← HSk.out]; exact HSl2.out (k + 1)
    rw [HNk.out] at HAk
    generalize sWid wide k = m at HNk HSk HW2 HWk hqm HAk
    have z1 : (0 : Int) ≤ (k : Int) := by omega
    have z2 : (k : Int) < 10 := by omega
    obtain ⟨y0, y1⟩ := HBF.out.c2
    go_wp2_with fail
    clear y0 y1
    refine (HW2.out _).mono ?_
    rintro e w4 ⟨rfl, hg4⟩
    have HBF4 := hid (HBF.out.grow hg4)
    have HB64 := hid (HB6.out.grow hg4)
    have HB84 := hid (HB8k.out.grow hg4)
    have HG4 : Hid (Grow w w4) := HG.out.trans hg4
    clear hg4 HBF HB6 HB8k HG
    obtain ⟨y0, y1⟩ := HBF4.out.c2
    go_wp2_with fail
    clear y0 y1
    refine (get_any A n c l _ q m big _ (HR.out.belowAt HG4.out (Nat.le_refl _)) (by omega)).mono ?_
    rintro e w5 ⟨rfl, j, hw5⟩
    have hgb : gotB l q m = true := by
     simp only [gotB, HWk.out, Bool.true_and, wthn]
     exact decide_eq_true (by have := HLen.out; omega)
    have hgv : gotV l q m big = getB ((l.drop q).take m) big := by
     simp only [gotV, hgb, if_true, Int.toNat_natCast]
    rw [hgb, hgv]
    generalize getB ((l.drop q).take m) big = v at HAk ⊢
    have HBF5 : Hid (Blk w5 w.heap.size 23 #[.bool wide, .bool big]) := by rw [hw5]; exact HBF4.out
    have HB65 : Hid (Blk w5 (w.heap.size + 1) 172 sc0.C) := by rw [hw5]; exact HB64.out
    have HB85 : Hid (Blk w5 g8 231 (u64s (laidUp ns 10 k))) := by rw [hw5]; exact HB84.out
    have HG5 : Hid (Grow w w5) := by rw [hw5]; exact HG4.out.trans (Grow.of_drewN _ _)
    clear hgb hgv hw5 HBF4 HB64 HB84 HG4
    have c1 : w5.cell? ⟨g8, k, none⟩ = some (.int .u64 ((laidUp ns 10 k).getD k 0 : Nat)) := by rw [HB85.out.at, idx_u64s _ _ (by rw [len_laidUp]; exact hlt)]
    have f1 := HB85.out.soft k
    have hB := HB85.out.putS k v
    rw [laidUp_succ HAk.out] at hB
    have HB86 := hid hB
    have HBF6 := hid (HBF5.out.cellset (a := ⟨g8, k, none⟩) (show w.heap.size ≠ g8 by have := HG8.out; omega) (.int .u64 (v : Int)))
    have HB66 := hid (HB65.out.cellset (a := ⟨g8, k, none⟩) (show w.heap.size + 1 ≠ g8 by have := HG8.out; omega) (.int .u64 (v : Int)))
    have HG6 : Hid (Grow w (w5.setCell ⟨g8, k, none⟩ (.int .u64 (v : Int)))) := Grow.cellset HG5.out (by have := HG8.out; omega) _ _
    have z3 : IntKind.u64.wrap (m : Int) = (m : Int) := by rw [IntKind.wrap_u64]; omega
    have z4 : IntKind.u64.wrap ((q : Int) + (m : Int)) = ((q + m : Nat) : Int) := by rw [IntKind.wrap_u64]; omega
    clear hB
    go_wp2_with fail
    go_roundw
    case rel => exact ⟨k + 1, q + m, by omega, by go_num, rfl, by rw [HSk.out, HQ.out]; omega, HBF6.out, HB66.out, HB86.out, HG6.out⟩
    case measure => simp [intOf]; omega
   ·have e : k = 10 := by omega
    rw [e, HAll.out] at HB8k
    have HNs : Hid ((u64s ns).size = 10) := hid (by rw [← HAll.out]; simp [u64s, len_laidUp])
    generalize u64s ns = RN at HHd HB8k HNs
    clear HSl HSl2 HNA
    go_wp2_with (refine wpList_load_row rfl 231 (.tmp 8) rfl g8 rfl _ RN (0, 0) _ HB8k.out Tryz.underlying231 rfl (by rw [HNs.out]; kernel_rfl) ?_)
    refine (HHd.out _).mono ?_
    rintro e w5 ⟨rfl, hg5⟩
    have HB65 := hid (HB6.out.grow hg5)
    have HG5 : Hid (Grow w w5) := HG.out.trans hg5
    clear hg5
    rw [HVC.out]
    have HB66 := hid (HB65.out.set pg.C)
    have HG6 : Hid (Grow w (w5.setRow (w.heap.size + 1) pg.C)) := Grow.set HG5.out (Nat.le_succ _) _
    obtain ⟨R, hR⟩ : ∃ R, R = pg.C := ⟨_, rfl⟩
    rw [← hR] at HC HC1 HG6 HB66 ⊢
    have HR2 := hid hR
    clear hR
    go_wp2_with (refine wpList_store_row rfl 172 (.tmp 6) (.tmp 45) rfl (w.heap.size + 1) R rfl rfl _ _ HB65.out (by rw [HC.out]; kernel_rfl) (by rw [HC.out]; rfl) HC1.out ?_)
    rw [HR2.out] at HB66 HG6 ⊢
    exact sgot_ret (err := .nilIface) rfl rfl HB66.out (.inl ⟨HIn.out, rfl, HG6.out⟩)
 ·rw [decide_eq_false hin]
  have HIn : Hid (l.length < p + sz) := hid (by omega)
  clear hin
  go_wp2_with (refine wpList_store_row rfl 172 (.tmp 6) (.tmp 20) rfl (w.heap.size + 1) sc0.C rfl rfl _ _ HB61.out (sz_sc sc0) rfl sc0.one ?_; rw [HB61.out.same])
  exact sgot_ret rfl rfl HB61.out (.inr ⟨HIn.out, rfl, HG1.out⟩)
end Go.Proofs.YtfbimboemahhhaaGreatDoor
