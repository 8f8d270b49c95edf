/-
  The contracts of file.checkSects and file.checkProgs.
-/
import Derived.Test.YtlccbekalccahaaGreatDoorFlSmall
import Derived.Test.YtlccbekalccahaaGreatDoorFbG21
namespace Go.Proofs.YtlccbekalccahaaGreatDoor
open Go.RowKit
set_option maxRecDepth 100000
set_option linter.unusedVariables false

def scEf (wide : Bool) (sh N len : Nat) : Nat × Nat :=
  if sh = 0 then (if N ≠ 0 then (4, oSn wide) else (0, 0)) else if N = 0 ∨ 65 < N then (8, oSh wide) else if inB len sh (N * sSize wide) then (0, 0) else (5, oSh wide)
def pgEf (wide : Bool) (pn sh ph N len : Nat) : Nat × Nat :=
  if pn = 65535 ∧ sh = 0 then (4, oPn wide) else if 16 < N then (8, oPn wide) else if inB len ph (N * pSize wide) then (0, 0) else (5, oPh wide)
/-- What a check answers. -/
def ChkR (E : Nat × Nat) (w : World) (e : Ending) (w' : World) : Prop := ∃ v, e = .returned v ∧ Err w' v E.1 E.2 ∧ Grow w w'
theorem chk_no {E : Nat × Nat} {w w' : World} (hE : E = (0, 0)) (hg : Grow w w') : ChkR E w (.returned .nilIface) w' := ⟨_, rfl, by rw [hE]; exact .inl ⟨rfl, rfl, rfl⟩, hg⟩
theorem chk_yes {E : Nat × Nat} {w w' : World} {c p : Nat} {v : Value} (hE : E = (c, p)) (hc : 0 < c) (hs : Spt w' v c p) (hg : Grow w w') : ChkR E w (.returned v) w' := ⟨_, rfl, by rw [hE]; exact hs.err hc, hg⟩

set_option maxHeartbeats 4000000 in
theorem checkSects_any (h : Hd) (ok : h.Ok) (A : Option Addr) (n c N : Nat) (w : World) (hn : n ≤ maxLen) :
    Calls Tryz.prog 67 #[.slice A n c, h.V, .int .u64 (N : Int)] w (ChkR (scEf h.wide h.sh N n) w) := by
  obtain ⟨E, hE⟩ : ∃ E, scEf h.wide h.sh N n = E := ⟨_, rfl⟩
  have HP := Lib.hid (fun W => places_any h.wide h.big W)
  have HZ := Lib.hid (fun W => sSize_any h.wide h.big W)
  have HI := Lib.hid (fun m W => isIn_any A n c h.sh m W hn)
  rw [hE]
  unfold scEf at hE
  have hpn := ok.pn
  have HD : Hid (sSize h.wide ≤ 64) := Lib.hid (by cases h.wide <;> decide)
  obtain ⟨y2, y3, y4, y5, y6, y9, y11, y12, hC⟩ : ∃ y2 y3 y4 y5 y6 y9 y11 y12 : Value, h.C = #[.bool h.wide, .bool h.big, y2, y3, y4, y5, y6, .int .u64 (h.ph : Int), .int .u64 (h.sh : Int), y9, .int .u16 (h.pn : Int), y11, y12] := ⟨_, _, _, _, _, _, _, _, rfl⟩
  unfold Hd.V
  rw [hC]
  generalize h.wide = wide at HP HZ hE HD ⊢
  generalize h.big = big at HP HZ ⊢
  generalize h.sh = sh at HI hE ⊢
  generalize h.ph = ph at  ⊢
  generalize h.pn = pn at hpn  ⊢
  have HE := Lib.hid hE
  clear hC ok hE hn
  by_cases h0 : sh = 0
  · have d0 : ((sh : Int) == 0) = true := by simp [h0]
    rw [if_pos h0] at HE
    by_cases h1 : N = 0
    · have d1 : ((N : Int) != 0) = false := by simp [h1]
      rw [if_neg (by simpa using h1)] at HE
      clear h0 h1
      go_enter Tryz.func67, Tryz.ntmps67
      go_wp2
      go_ret
      exact chk_no HE.out.symm (blk2 rfl).2.2
    · have d1 : ((N : Int) != 0) = true := by simp; omega
      rw [if_pos h1] at HE
      replace HE := Lib.hid HE.out.symm
      clear h0 h1
      go_enter Tryz.func67, Tryz.ntmps67
      go_wp2_with fail
      generalize hW : World.alloc _ _ = W0
      obtain ⟨b1, b2, hg0⟩ := blk2 hW
      clear hW
      have HB := Lib.hid b1
      have HF := Lib.hid b2
      have HG0 := Lib.hid hg0
      clear b1 b2 hg0
      refine (HP.out _).mono ?_
      rintro e wp ⟨rfl, hgp⟩
      have HGp := Lib.hid (HG0.out.trans hgp)
      clear hgp
      have nf0 := num_0
      have nf1 := num_1
      have nf2 := num_2
      have nf3 := num_3
      have nf4 := num_4
      go_wp2_with fail
      clear nf0 nf1 nf2 nf3 nf4
      refine (fspot_4 _ _).mono ?_
      rintro e wq ⟨bq, rfl, hs, hgq⟩
      have HSq := Lib.hid hs
      have HGq := Lib.hid (HGp.out.trans hgq)
      clear hs hgq
      go_wp2
      go_ret
      exact chk_yes HE.out (by decide) HSq.out HGq.out
  · have d0 : ((sh : Int) == 0) = false := by simp; omega
    rw [if_neg h0] at HE
    by_cases h1 : N = 0 ∨ 65 < N
    · rw [if_pos h1] at HE
      replace HE := Lib.hid HE.out.symm
      by_cases h2 : N = 0
      · have d1 : ((N : Int) == 0) = true := by simp [h2]
        clear h0 h1 h2
        go_enter Tryz.func67, Tryz.ntmps67
        go_wp2_with fail
        generalize hW : World.alloc _ _ = W0
        obtain ⟨b1, b2, hg0⟩ := blk2 hW
        clear hW
        have HB := Lib.hid b1
        have HF := Lib.hid b2
        have HG0 := Lib.hid hg0
        clear b1 b2 hg0
        refine (HP.out _).mono ?_
        rintro e wp ⟨rfl, hgp⟩
        have HGp := Lib.hid (HG0.out.trans hgp)
        clear hgp
        have nf0 := num_0
        have nf1 := num_1
        have nf2 := num_2
        have nf3 := num_3
        have nf4 := num_4
        go_wp2_with fail
        clear nf0 nf1 nf2 nf3 nf4
        refine (fspot_8 _ _).mono ?_
        rintro e wq ⟨bq, rfl, hs, hgq⟩
        have HSq := Lib.hid hs
        have HGq := Lib.hid (HGp.out.trans hgq)
        clear hs hgq
        go_wp2
        go_ret
        exact chk_yes HE.out (by decide) HSq.out HGq.out
      · have d1 : ((N : Int) == 0) = false := by simp; omega
        have d2 : decide ((65 : Int) < (N : Int)) = true := decide_eq_true (by omega)
        clear h0 h1 h2
        go_enter Tryz.func67, Tryz.ntmps67
        go_wp2_with fail
        generalize hW : World.alloc _ _ = W0
        obtain ⟨b1, b2, hg0⟩ := blk2 hW
        clear hW
        have HB := Lib.hid b1
        have HF := Lib.hid b2
        have HG0 := Lib.hid hg0
        clear b1 b2 hg0
        refine (HP.out _).mono ?_
        rintro e wp ⟨rfl, hgp⟩
        have HGp := Lib.hid (HG0.out.trans hgp)
        clear hgp
        have nf0 := num_0
        have nf1 := num_1
        have nf2 := num_2
        have nf3 := num_3
        have nf4 := num_4
        go_wp2_with fail
        clear nf0 nf1 nf2 nf3 nf4
        refine (fspot_8 _ _).mono ?_
        rintro e wq ⟨bq, rfl, hs, hgq⟩
        have HSq := Lib.hid hs
        have HGq := Lib.hid (HGp.out.trans hgq)
        clear hs hgq
        go_wp2
        go_ret
        exact chk_yes HE.out (by decide) HSq.out HGq.out
    · rw [if_neg h1] at HE
      have d1 : ((N : Int) == 0) = false := by simp; omega
      have d2 : decide ((65 : Int) < (N : Int)) = false := decide_eq_false (by omega)
      have HN : Hid (N ≤ 65) := Lib.hid (by omega)
      clear h0 h1
      go_enter Tryz.func67, Tryz.ntmps67
      go_wp2_with fail
      refine wp_region_chain [(0, true), (1, true), (2, true), (3, true), (4, true), (5, false), (6, true), (7, true), (8, false), (9, true), (10, true)] (by kernel_rfl) (by kernel_rfl) (by kernel_rfl) ?_
      generalize hW : World.alloc _ _ = W0
      obtain ⟨b1, b2, hg0⟩ := blk2 hW
      clear hW
      have HB := Lib.hid b1.drew
      have HF := Lib.hid b2.drew
      have HG0 : Hid (Grow w W0.drew) := Lib.hid (hg0.trans (Grow.of_drew _))
      clear b1 b2 hg0
      generalize W0.drew = W1 at HB HF HG0 ⊢
      have q0 : ∀ W, Grow W1 W → W.cell? ⟨w.heap.size, 8, none⟩ = some (.int .u64 (sh : Int)) := fun W hW => (HB.out.grow hW).at 8
      have f0 : ∀ W, Grow W1 W → W.cell? ⟨w.heap.size + 1, 0, none⟩ = some (.bool wide) := fun W hW => (HF.out.grow hW).at 0
      have f1 : ∀ W, Grow W1 W → W.cell? ⟨w.heap.size + 1, 1, none⟩ = some (.bool big) := fun W hW => (HF.out.grow hW).at 1
      repeat (first | (refine chain_take rfl (by rfl) ?_ (fun W hG => ?_) ?_; rotate_left; (go_simp; rfl); simp only [Act.put, List.setIfInBounds_toArray, List.set_cons_zero, List.set_cons_succ]) | (refine chain_skip rfl (by rfl) ?_; simp only [Act.put, List.setIfInBounds_toArray, List.set_cons_zero, List.set_cons_succ]))
      clear q0 f0 f1
      refine chain_only rfl (by rfl) (fun K hK => ?_)
      go_simp
      refine (HZ.out _).mono ?_
      rintro e w2 ⟨rfl, hg⟩
      refine hK _ _ hg ?_
      clear hK K
      have HF2 := Lib.hid (HF.out.grow hg)
      have HG2 : Hid (Grow w w2) := Lib.hid (HG0.out.trans hg)
      clear hg HF HB HG0
      have hb := Nat.mul_le_mul HN.out HD.out
      have q1 : IntKind.u64.wrap (sSize wide : Int) = (sSize wide : Int) := by have := HD.out; rw [IntKind.wrap_u64]; omega
      have q2 : IntKind.u64.wrap ((N : Int) * (sSize wide : Int)) = ((N * sSize wide : Nat) : Int) := by
        have e1 : (N : Int) * (sSize wide : Int) = ((N * sSize wide : Nat) : Int) := by simp
        rw [e1, IntKind.wrap_u64]
        omega
      clear hb
      generalize N * sSize wide = M at q2 HE
      repeat (first | (refine chain_take rfl (by rfl) ?_ (fun W hG => ?_) ?_; rotate_left; (go_simp; rfl); simp only [Act.put, List.setIfInBounds_toArray, List.set_cons_zero, List.set_cons_succ]) | (refine chain_skip rfl (by rfl) ?_; simp only [Act.put, List.setIfInBounds_toArray, List.set_cons_zero, List.set_cons_succ]))
      clear q1 q2
      refine chain_only rfl (by rfl) (fun K hK => ?_)
      go_simp
      refine (HI.out M _).mono ?_
      rintro e w3 ⟨rfl, rfl⟩
      refine hK _ _ (Grow.refl _) ?_
      clear hK K
      repeat (first | (refine chain_take rfl (by rfl) ?_ (fun W hG => ?_) ?_; rotate_left; (go_simp; rfl); simp only [Act.put, List.setIfInBounds_toArray, List.set_cons_zero, List.set_cons_succ]) | (refine chain_skip rfl (by rfl) ?_; simp only [Act.put, List.setIfInBounds_toArray, List.set_cons_zero, List.set_cons_succ]))
      refine chain_done ?_
      cases hin : inB n sh M with
      | true =>
        rw [hin, if_pos rfl] at HE
        clear hin
        go_wp2
        go_ret
        exact chk_no HE.out.symm HG2.out
      | false =>
        rw [hin, if_neg (by decide)] at HE
        replace HE := Lib.hid HE.out.symm
        have f0 := HF2.out.at 0
        have f1 := HF2.out.at 1
        clear hin
        go_wp2_with fail
        clear f0 f1
        refine (HP.out _).mono ?_
        rintro e wp ⟨rfl, hgp⟩
        have HGp := Lib.hid (HG2.out.trans hgp)
        clear hgp
        have nf0 := num_0
        have nf1 := num_1
        have nf2 := num_2
        have nf3 := num_3
        have nf4 := num_4
        go_wp2_with fail
        clear nf0 nf1 nf2 nf3 nf4
        refine (fspot_5 _ _).mono ?_
        rintro e wq ⟨bq, rfl, hs, hgq⟩
        have HSq := Lib.hid hs
        have HGq := Lib.hid (HGp.out.trans hgq)
        clear hs hgq
        go_wp2
        go_ret
        exact chk_yes HE.out (by decide) HSq.out HGq.out

set_option maxHeartbeats 4000000 in
theorem checkProgs_any (h : Hd) (ok : h.Ok) (A : Option Addr) (n c N : Nat) (w : World) (hn : n ≤ maxLen) :
    Calls Tryz.prog 68 #[.slice A n c, h.V, .int .u64 (N : Int)] w (ChkR (pgEf h.wide h.pn h.sh h.ph N n) w) := by
  obtain ⟨E, hE⟩ : ∃ E, pgEf h.wide h.pn h.sh h.ph N n = E := ⟨_, rfl⟩
  have HP := Lib.hid (fun W => places_any h.wide h.big W)
  have HZ := Lib.hid (fun W => pSize_any h.wide h.big W)
  have HI := Lib.hid (fun m W => isIn_any A n c h.ph m W hn)
  rw [hE]
  unfold pgEf at hE
  have hpn := ok.pn
  have HD : Hid (pSize h.wide ≤ 64) := Lib.hid (by cases h.wide <;> decide)
  obtain ⟨y2, y3, y4, y5, y6, y9, y11, y12, hC⟩ : ∃ y2 y3 y4 y5 y6 y9 y11 y12 : Value, h.C = #[.bool h.wide, .bool h.big, y2, y3, y4, y5, y6, .int .u64 (h.ph : Int), .int .u64 (h.sh : Int), y9, .int .u16 (h.pn : Int), y11, y12] := ⟨_, _, _, _, _, _, _, _, rfl⟩
  unfold Hd.V
  rw [hC]
  generalize h.wide = wide at HP HZ hE HD ⊢
  generalize h.big = big at HP HZ ⊢
  generalize h.sh = sh at  hE ⊢
  generalize h.ph = ph at HI hE ⊢
  generalize h.pn = pn at hpn hE ⊢
  have HE := Lib.hid hE
  clear hC ok hE hn
  by_cases h0 : pn = 65535 ∧ sh = 0
  · rw [if_pos h0] at HE
    replace HE := Lib.hid HE.out.symm
    have d0 : ((pn : Int) == 65535) = true := by have := h0.1; simp; omega
    have d1 : ((sh : Int) == 0) = true := by have := h0.2; simp; omega
    clear h0
    go_enter Tryz.func68, Tryz.ntmps68
    go_wp2_with fail
    generalize hW : World.alloc _ _ = W0
    obtain ⟨b1, b2, hg0⟩ := blk2 hW
    clear hW
    have HB := Lib.hid b1
    have HF := Lib.hid b2
    have HG0 := Lib.hid hg0
    clear b1 b2 hg0
    refine (HP.out _).mono ?_
    rintro e wp ⟨rfl, hgp⟩
    have HGp := Lib.hid (HG0.out.trans hgp)
    clear hgp
    have nf0 := num_0
    have nf1 := num_1
    have nf2 := num_2
    have nf3 := num_3
    have nf4 := num_4
    go_wp2_with fail
    clear nf0 nf1 nf2 nf3 nf4
    refine (fspot_4 _ _).mono ?_
    rintro e wq ⟨bq, rfl, hs, hgq⟩
    have HSq := Lib.hid hs
    have HGq := Lib.hid (HGp.out.trans hgq)
    clear hs hgq
    go_wp2
    go_ret
    exact chk_yes HE.out (by decide) HSq.out HGq.out
  · rw [if_neg h0] at HE
    have d0 : (((pn : Int) == 65535) && ((sh : Int) == 0)) = false := by simp; omega
    have HD0 : ((pn : Int) == 65535) = false ∨ (((pn : Int) == 65535) = true ∧ ((sh : Int) == 0) = false) := by
      cases e : ((pn : Int) == 65535)
      · exact .inl rfl
      · rw [e] at d0; exact .inr ⟨rfl, d0⟩
    clear h0 d0
    by_cases h1 : 16 < N
    · rw [if_pos h1] at HE
      replace HE := Lib.hid HE.out.symm
      have d2 : decide ((16 : Int) < (N : Int)) = true := decide_eq_true (by omega)
      clear h1
      rcases HD0 with d0 | ⟨d0, d1⟩
      · skip
        go_enter Tryz.func68, Tryz.ntmps68
        go_wp2_with fail
        generalize hW : World.alloc _ _ = W0
        obtain ⟨b1, b2, hg0⟩ := blk2 hW
        clear hW
        have HB := Lib.hid b1
        have HF := Lib.hid b2
        have HG0 := Lib.hid hg0
        clear b1 b2 hg0
        refine (HP.out _).mono ?_
        rintro e wp ⟨rfl, hgp⟩
        have HGp := Lib.hid (HG0.out.trans hgp)
        clear hgp
        have nf0 := num_0
        have nf1 := num_1
        have nf2 := num_2
        have nf3 := num_3
        have nf4 := num_4
        go_wp2_with fail
        clear nf0 nf1 nf2 nf3 nf4
        refine (fspot_8 _ _).mono ?_
        rintro e wq ⟨bq, rfl, hs, hgq⟩
        have HSq := Lib.hid hs
        have HGq := Lib.hid (HGp.out.trans hgq)
        clear hs hgq
        go_wp2
        go_ret
        exact chk_yes HE.out (by decide) HSq.out HGq.out
      · skip
        go_enter Tryz.func68, Tryz.ntmps68
        go_wp2_with fail
        generalize hW : World.alloc _ _ = W0
        obtain ⟨b1, b2, hg0⟩ := blk2 hW
        clear hW
        have HB := Lib.hid b1
        have HF := Lib.hid b2
        have HG0 := Lib.hid hg0
        clear b1 b2 hg0
        refine (HP.out _).mono ?_
        rintro e wp ⟨rfl, hgp⟩
        have HGp := Lib.hid (HG0.out.trans hgp)
        clear hgp
        have nf0 := num_0
        have nf1 := num_1
        have nf2 := num_2
        have nf3 := num_3
        have nf4 := num_4
        go_wp2_with fail
        clear nf0 nf1 nf2 nf3 nf4
        refine (fspot_8 _ _).mono ?_
        rintro e wq ⟨bq, rfl, hs, hgq⟩
        have HSq := Lib.hid hs
        have HGq := Lib.hid (HGp.out.trans hgq)
        clear hs hgq
        go_wp2
        go_ret
        exact chk_yes HE.out (by decide) HSq.out HGq.out
    · rw [if_neg h1] at HE
      have d2 : decide ((16 : Int) < (N : Int)) = false := decide_eq_false (by omega)
      have HN : Hid (N ≤ 65) := Lib.hid (by omega)
      clear h1
      rcases HD0 with d0 | ⟨d0, d1⟩
      · skip
        go_enter Tryz.func68, Tryz.ntmps68
        go_wp2_with fail
        refine wp_region_chain [(0, true), (1, true), (2, true), (3, true), (4, true), (5, false), (6, true), (7, true), (8, false), (9, true), (10, true)] (by kernel_rfl) (by kernel_rfl) (by kernel_rfl) ?_
        generalize hW : World.alloc _ _ = W0
        obtain ⟨b1, b2, hg0⟩ := blk2 hW
        clear hW
        have HB := Lib.hid b1.drew
        have HF := Lib.hid b2.drew
        have HG0 : Hid (Grow w W0.drew) := Lib.hid (hg0.trans (Grow.of_drew _))
        clear b1 b2 hg0
        generalize W0.drew = W1 at HB HF HG0 ⊢
        have q0 : ∀ W, Grow W1 W → W.cell? ⟨w.heap.size, 7, none⟩ = some (.int .u64 (ph : Int)) := fun W hW => (HB.out.grow hW).at 7
        have f0 : ∀ W, Grow W1 W → W.cell? ⟨w.heap.size + 1, 0, none⟩ = some (.bool wide) := fun W hW => (HF.out.grow hW).at 0
        have f1 : ∀ W, Grow W1 W → W.cell? ⟨w.heap.size + 1, 1, none⟩ = some (.bool big) := fun W hW => (HF.out.grow hW).at 1
        repeat (first | (refine chain_take rfl (by rfl) ?_ (fun W hG => ?_) ?_; rotate_left; (go_simp; rfl); simp only [Act.put, List.setIfInBounds_toArray, List.set_cons_zero, List.set_cons_succ]) | (refine chain_skip rfl (by rfl) ?_; simp only [Act.put, List.setIfInBounds_toArray, List.set_cons_zero, List.set_cons_succ]))
        clear q0 f0 f1
        refine chain_only rfl (by rfl) (fun K hK => ?_)
        go_simp
        refine (HZ.out _).mono ?_
        rintro e w2 ⟨rfl, hg⟩
        refine hK _ _ hg ?_
        clear hK K
        have HF2 := Lib.hid (HF.out.grow hg)
        have HG2 : Hid (Grow w w2) := Lib.hid (HG0.out.trans hg)
        clear hg HF HB HG0
        have hb := Nat.mul_le_mul HN.out HD.out
        have q1 : IntKind.u64.wrap (pSize wide : Int) = (pSize wide : Int) := by have := HD.out; rw [IntKind.wrap_u64]; omega
        have q2 : IntKind.u64.wrap ((N : Int) * (pSize wide : Int)) = ((N * pSize wide : Nat) : Int) := by
          have e1 : (N : Int) * (pSize wide : Int) = ((N * pSize wide : Nat) : Int) := by simp
          rw [e1, IntKind.wrap_u64]
          omega
        clear hb
        generalize N * pSize wide = M at q2 HE
        repeat (first | (refine chain_take rfl (by rfl) ?_ (fun W hG => ?_) ?_; rotate_left; (go_simp; rfl); simp only [Act.put, List.setIfInBounds_toArray, List.set_cons_zero, List.set_cons_succ]) | (refine chain_skip rfl (by rfl) ?_; simp only [Act.put, List.setIfInBounds_toArray, List.set_cons_zero, List.set_cons_succ]))
        clear q1 q2
        refine chain_only rfl (by rfl) (fun K hK => ?_)
        go_simp
        refine (HI.out M _).mono ?_
        rintro e w3 ⟨rfl, rfl⟩
        refine hK _ _ (Grow.refl _) ?_
        clear hK K
        repeat (first | (refine chain_take rfl (by rfl) ?_ (fun W hG => ?_) ?_; rotate_left; (go_simp; rfl); simp only [Act.put, List.setIfInBounds_toArray, List.set_cons_zero, List.set_cons_succ]) | (refine chain_skip rfl (by rfl) ?_; simp only [Act.put, List.setIfInBounds_toArray, List.set_cons_zero, List.set_cons_succ]))
        refine chain_done ?_
        cases hin : inB n ph M with
        | true =>
          rw [hin, if_pos rfl] at HE
          clear hin
          go_wp2
          go_ret
          exact chk_no HE.out.symm HG2.out
        | false =>
          rw [hin, if_neg (by decide)] at HE
          replace HE := Lib.hid HE.out.symm
          have f0 := HF2.out.at 0
          have f1 := HF2.out.at 1
          clear hin
          go_wp2_with fail
          clear f0 f1
          refine (HP.out _).mono ?_
          rintro e wp ⟨rfl, hgp⟩
          have HGp := Lib.hid (HG2.out.trans hgp)
          clear hgp
          have nf0 := num_0
          have nf1 := num_1
          have nf2 := num_2
          have nf3 := num_3
          have nf4 := num_4
          go_wp2_with fail
          clear nf0 nf1 nf2 nf3 nf4
          refine (fspot_5 _ _).mono ?_
          rintro e wq ⟨bq, rfl, hs, hgq⟩
          have HSq := Lib.hid hs
          have HGq := Lib.hid (HGp.out.trans hgq)
          clear hs hgq
          go_wp2
          go_ret
          exact chk_yes HE.out (by decide) HSq.out HGq.out
      · skip
        go_enter Tryz.func68, Tryz.ntmps68
        go_wp2_with fail
        refine wp_region_chain [(0, true), (1, true), (2, true), (3, true), (4, true), (5, false), (6, true), (7, true), (8, false), (9, true), (10, true)] (by kernel_rfl) (by kernel_rfl) (by kernel_rfl) ?_
        generalize hW : World.alloc _ _ = W0
        obtain ⟨b1, b2, hg0⟩ := blk2 hW
        clear hW
        have HB := Lib.hid b1.drew
        have HF := Lib.hid b2.drew
        have HG0 : Hid (Grow w W0.drew) := Lib.hid (hg0.trans (Grow.of_drew _))
        clear b1 b2 hg0
        generalize W0.drew = W1 at HB HF HG0 ⊢
        have q0 : ∀ W, Grow W1 W → W.cell? ⟨w.heap.size, 7, none⟩ = some (.int .u64 (ph : Int)) := fun W hW => (HB.out.grow hW).at 7
        have f0 : ∀ W, Grow W1 W → W.cell? ⟨w.heap.size + 1, 0, none⟩ = some (.bool wide) := fun W hW => (HF.out.grow hW).at 0
        have f1 : ∀ W, Grow W1 W → W.cell? ⟨w.heap.size + 1, 1, none⟩ = some (.bool big) := fun W hW => (HF.out.grow hW).at 1
        repeat (first | (refine chain_take rfl (by rfl) ?_ (fun W hG => ?_) ?_; rotate_left; (go_simp; rfl); simp only [Act.put, List.setIfInBounds_toArray, List.set_cons_zero, List.set_cons_succ]) | (refine chain_skip rfl (by rfl) ?_; simp only [Act.put, List.setIfInBounds_toArray, List.set_cons_zero, List.set_cons_succ]))
        clear q0 f0 f1
        refine chain_only rfl (by rfl) (fun K hK => ?_)
        go_simp
        refine (HZ.out _).mono ?_
        rintro e w2 ⟨rfl, hg⟩
        refine hK _ _ hg ?_
        clear hK K
        have HF2 := Lib.hid (HF.out.grow hg)
        have HG2 : Hid (Grow w w2) := Lib.hid (HG0.out.trans hg)
        clear hg HF HB HG0
        have hb := Nat.mul_le_mul HN.out HD.out
        have q1 : IntKind.u64.wrap (pSize wide : Int) = (pSize wide : Int) := by have := HD.out; rw [IntKind.wrap_u64]; omega
        have q2 : IntKind.u64.wrap ((N : Int) * (pSize wide : Int)) = ((N * pSize wide : Nat) : Int) := by
          have e1 : (N : Int) * (pSize wide : Int) = ((N * pSize wide : Nat) : Int) := by simp
          rw [e1, IntKind.wrap_u64]
          omega
        clear hb
        generalize N * pSize wide = M at q2 HE
        repeat (first | (refine chain_take rfl (by rfl) ?_ (fun W hG => ?_) ?_; rotate_left; (go_simp; rfl); simp only [Act.put, List.setIfInBounds_toArray, List.set_cons_zero, List.set_cons_succ]) | (refine chain_skip rfl (by rfl) ?_; simp only [Act.put, List.setIfInBounds_toArray, List.set_cons_zero, List.set_cons_succ]))
        clear q1 q2
        refine chain_only rfl (by rfl) (fun K hK => ?_)
        go_simp
        refine (HI.out M _).mono ?_
        rintro e w3 ⟨rfl, rfl⟩
        refine hK _ _ (Grow.refl _) ?_
        clear hK K
        repeat (first | (refine chain_take rfl (by rfl) ?_ (fun W hG => ?_) ?_; rotate_left; (go_simp; rfl); simp only [Act.put, List.setIfInBounds_toArray, List.set_cons_zero, List.set_cons_succ]) | (refine chain_skip rfl (by rfl) ?_; simp only [Act.put, List.setIfInBounds_toArray, List.set_cons_zero, List.set_cons_succ]))
        refine chain_done ?_
        cases hin : inB n ph M with
        | true =>
          rw [hin, if_pos rfl] at HE
          clear hin
          go_wp2
          go_ret
          exact chk_no HE.out.symm HG2.out
        | false =>
          rw [hin, if_neg (by decide)] at HE
          replace HE := Lib.hid HE.out.symm
          have f0 := HF2.out.at 0
          have f1 := HF2.out.at 1
          clear hin
          go_wp2_with fail
          clear f0 f1
          refine (HP.out _).mono ?_
          rintro e wp ⟨rfl, hgp⟩
          have HGp := Lib.hid (HG2.out.trans hgp)
          clear hgp
          have nf0 := num_0
          have nf1 := num_1
          have nf2 := num_2
          have nf3 := num_3
          have nf4 := num_4
          go_wp2_with fail
          clear nf0 nf1 nf2 nf3 nf4
          refine (fspot_5 _ _).mono ?_
          rintro e wq ⟨bq, rfl, hs, hgq⟩
          have HSq := Lib.hid hs
          have HGq := Lib.hid (HGp.out.trans hgq)
          clear hs hgq
          go_wp2
          go_ret
          exact chk_yes HE.out (by decide) HSq.out HGq.out
end Go.Proofs.YtlccbekalccahaaGreatDoor
