/-
  The contract of slices.insertionSortCmpFunc at []int, under Order's comparison: from a to b the keys rise, and nothing else is touched.
-/
import Derived.Test.YthdgkhigekogiaaGnSwap
namespace Go.Proofs.Ythdgkhigekogiaa
open Go.RowKit

set_option maxHeartbeats 4000000 in
theorem insertion_any (g n c a b gb N : Nat) (key f : Nat → Nat) (w : World) (hr : Row w g n f) (hcmp : ∀ W, w.grownBy W (some g) → CmpAt gb N key W) (hf : ∀ x, x < n → f x < N) (hab : a ≤ b) (hb : b ≤ n) (hn : n ≤ c) (hc : c ≤ maxLen) (hbig : n < 4611686018427387904) :
    Calls Try.prog 38 #[.slice (some ⟨g, 0, none⟩) n c, .int .i64 a, .int .i64 b, cmpF gb] w fun e w' =>
      e = .returned (.tuple #[]) ∧ ∃ F, Row w' g n F ∧ Mix a b f F ∧ Rise key a b F ∧ w.grownBy w' (some g) := by
  have mixed : Try.prog.follows .mixedOrders = true := by kernel_rfl
  unfold maxLen at hc
  have HR := Lib.hid hr
  have HC := Lib.hid hcmp
  have HN := Lib.hid hf
  clear hr hcmp hf
  unfold cmpF
  go_enter Try.func38, Try.ntmps38
  go_wp2
  go_loopw [8] (fun i wr => ∃ (I : Nat) (F : Nat → Nat), i = .int .i64 I ∧ a < I ∧ (I ≤ b ∨ I = a + 1) ∧ Row wr g n F ∧ Hid (Mix a b f F) ∧ Hid (Rise key a I F) ∧ w.grownBy wr (some g)) (fun i _ => b - (intOf i).toNat)
  case atStart => exact ⟨a + 1, f, by go_num, by omega, .inr rfl, HR.out, Lib.hid (Mix.refl _ _ _), Lib.hid (Rise.one _ _ _ _ (Nat.le_refl _)), grown_refl _ _⟩
  case round =>
    obtain ⟨I, F0, rfl, haI, hIb, hrow, HM, HS, hgr⟩ := hrel
    have HW := Lib.hid hrow
    have HG := Lib.hid hgr
    clear hrow hgr HR
    by_cases hlt : I < b
    · clear hIb
      go_wp2
      go_loopw [9] (fun j wr2 => ∃ (J : Nat) (F : Nat → Nat), j = .int .i64 J ∧ a ≤ J ∧ J ≤ I ∧ Row wr2 g n F ∧ Hid (Mix a b f F) ∧ Hid (Near key a I J F) ∧ w.grownBy wr2 (some g)) (fun j _ => (intOf j).toNat)
      case atStart => exact ⟨I, F0, rfl, by omega, Nat.le_refl _, HW.out, HM, Lib.hid (near_start HS.out), HG.out⟩
      case round =>
        clear HM HS HW HG
        obtain ⟨J, F, rfl, haJ, hJI, hrow, HM, HS, hgr⟩ := hrel
        have HG := Lib.hid hgr
        have HF := Lib.hid (HM.out.lt hb HN.out)
        by_cases hja : a < J
        · obtain ⟨q, rfl⟩ : ∃ q, J = q + 1 := ⟨J - 1, by omega⟩
          obtain ⟨i, hi⟩ : ∃ i, i = q + 1 := ⟨_, rfl⟩
          have HI := Lib.hid hi
          have c1 : wr.cell? ⟨g, i, none⟩ = some (.int .i64 (F i : Int)) := hrow.cell (by omega)
          have c2 : wr.cell? ⟨g, q, none⟩ = some (.int .i64 (F q : Int)) := hrow.cell (by omega)
          have HK := Lib.hid (HC.out wr hgr (F i) (F q) (HF.out i (by omega)) (HF.out q (by omega)))
          have HW := Lib.hid hrow
          have p1 : ((q : Int) + 1).toNat = i := by omega
          have p2 : (0 : Int) ≤ (q : Int) + 1 := by omega
          have p3 : (q : Int) + 1 < (n : Int) := by omega
          have p4 : (q : Int) < (n : Int) := by omega
          have p5 : (a : Int) < (q : Int) + 1 := by omega
          have p6 : IntKind.i64.wrap (q : Int) = (q : Int) := by rw [IntKind.wrap_i64]; omega
          clear hrow hgr hi
          obtain ⟨x, hx⟩ : ∃ x, x = F i := ⟨_, rfl⟩
          obtain ⟨y, hy⟩ : ∃ y, y = F q := ⟨_, rfl⟩
          rw [← hx, ← hy] at HK
          rw [← hx] at c1
          rw [← hy] at c2
          obtain ⟨v, hv⟩ : ∃ v, v = cmp3 (key x) (key y) := ⟨_, rfl⟩
          rw [← hv] at HK
          have HV := Lib.hid hv
          have Hx := Lib.hid hx
          have Hy := Lib.hid hy
          clear hx hy hv
          by_cases hlv : v < 0
          · have HL := Lib.hid hlv
            go_wp2_with fail
            go_quiet ((go_at_call 14; exact Calls.quiet_of (HK.out _)))
            clear c1 c2 HK hlv
            have HG2 := Lib.hid (grown_trans HG.out (grown_drewN wr (some g) nq))
            have hrow2 : Row (wr.drewN nq) g n F := HW.out
            clear HW HG
            generalize wr.drewN nq = w2 at hrow2 HG2
            clear nq
            go_wp2_with fail
            obtain ⟨c1, c2, f1, f2, h3⟩ := hrow2.facts (i := i) (j := q) (by have := HI.out; omega) (by omega)
            have HX := Lib.hid (hrow2.xch i q)
            have HY := Lib.hid (Row.grown w2 g i q (.int .i64 (F q : Int)) (.int .i64 (F i : Int)))
            obtain ⟨u, c3⟩ := h3 (.int .i64 (F q : Int))
            rw [← Hx.out] at c1 HX HY
            rw [← Hy.out] at c2 c3 HX HY
            clear h3 hrow2
            go_big_region_o
            clear c1 c2 c3 f1 f2
            have HZ := Lib.hid (grown_trans HG2.out (grown_trans HY.out (grown_drew _ _)))
            go_wp2
            go_roundw
            case rel =>
              have h1 := HI.out
              have h2 := HV.out
              have hk : key (F (q + 1)) < key (F q) := by rw [← h1, ← Hx.out, ← Hy.out]; exact cmp3_lt.1 (by have h3 := HL.out; rw [← h2]; omega)
              refine ⟨q, xch (q + 1) q F, by go_num, by omega, by omega, ?_, Lib.hid (HM.out.trans (mix_xch F ⟨by omega, by omega⟩ ⟨by omega, by omega⟩)), Lib.hid (near_step HS.out (by omega) hJI hk), HZ.out⟩
              rw [← h1]
              exact HX.out
            case measure => simp [intOf]
          · have hlv' : decide (v < 0) = false := decide_eq_false hlv
            have HL := Lib.hid hlv
            go_wp2_with fail
            go_quiet ((go_at_call 14; exact Calls.quiet_of (HK.out _)))
            go_wp2
            go_roundw
            case rel =>
              refine ⟨I + 1, F, by go_num, by omega, .inl (by omega), HW.out, HM, Lib.hid (near_out HS.out hJI (.inr ⟨q, rfl, by omega, ?_⟩)), grown_trans HG.out (grown_drewN _ _ _)⟩
              have h2 := HV.out
              rw [← HI.out, ← Hx.out, ← Hy.out]
              rcases Nat.lt_or_ge (key x) (key y) with h | h
              · exact absurd (cmp3_lt.2 h) (by have h3 := HL.out; rw [← h2]; omega)
              · exact h
            case measure => simp [intOf]; omega
        · have e : J = a := by omega
          subst e
          have hd : decide ((J : Int) > (J : Int)) = false := decide_eq_false (by omega)
          have HW := Lib.hid hrow
          clear hrow hgr
          go_wp2_with fail
          go_quiet (fail)
          go_wp2
          go_roundw
          case rel => exact ⟨I + 1, F, by go_num, by omega, .inl (by omega), HW.out, HM, Lib.hid (near_out HS.out hJI (.inl (Nat.le_refl _))), grown_trans HG.out (grown_drewN _ _ _)⟩
          case measure => simp [intOf]; omega
    · go_wp2
      go_end0
      refine ⟨rfl, F0, HW.out, HM.out, fun x y h1 h2 h3 => HS.out x y h1 h2 (by omega), HG.out⟩
end Go.Proofs.Ythdgkhigekogiaa
