/-
  The contract of slices.symMergeCmpFunc at []int, under Order's comparison, where the second of the two pieces has one place only.
-/
import Derived.Test.YthdgkhigekogiaaGnMergeA
namespace Go.Proofs.Ythdgkhigekogiaa
open Go.RowKit

set_option maxHeartbeats 4000000 in
set_option maxRecDepth 100000 in
theorem sym_two (g n c a m b gb N : Nat) (key f : Nat → Nat) (w : World) (hr : Row w g n f) (hcmp : ∀ W, w.grownBy W (some g) → CmpAt gb N key W) (hf : ∀ x, x < n → f x < N) (ham : a < m) (hm : m ≠ a + 1) (hbm : b = m + 1) (hb : b ≤ n) (hn : n ≤ c) (hc : c ≤ maxLen) (hbig : n < 4611686018427387904) (h2 : Rise key a m f) :
    Calls Try.prog 39 #[.slice (some ⟨g, 0, none⟩) n c, .int .i64 a, .int .i64 m, .int .i64 b, cmpF gb] w (Merged g n a b key f w) := by
  have mixed : Try.prog.follows .mixedOrders = true := by kernel_rfl
  unfold maxLen at hc
  have HR := Lib.hid hr
  have HC := Lib.hid hcmp
  have HN := Lib.hid hf
  have HS := Lib.hid h2
  have HB := Lib.hid hbm
  obtain ⟨D, hD⟩ : ∃ D, D = m - a := ⟨_, rfl⟩
  have s1 : IntKind.i64.wrap ((m : Int) - (a : Int)) = (D : Int) := by rw [IntKind.wrap_i64]; omega
  have s2 : ((D : Int) == 1) = false := by simp; omega
  have s3 : IntKind.i64.wrap ((b : Int) - (m : Int)) = 1 := by rw [IntKind.wrap_i64]; omega
  have hmn : m < n := by omega
  clear hr hcmp hf h2 hm hbm hD
  unfold cmpF
  go_enter Try.func39, Try.ntmps39
  go_wp2
  clear s1 s2 s3
  go_loopw [14, 15] (fun i j wr => ∃ (I J M : Nat), i = .int .i64 I ∧ j = .int .i64 J ∧ a ≤ I ∧ I ≤ J ∧ J ≤ m ∧ wr = w.drewN M ∧ Hid (∀ x, a ≤ x → x < I → key (f x) ≤ key (f m)) ∧ Hid (∀ x, J ≤ x → x < m → key (f m) ≤ key (f x))) (fun i j _ => (intOf j).toNat - (intOf i).toNat)
  case atStart => exact ⟨a, m, 0, rfl, rfl, Nat.le_refl _, by omega, Nat.le_refl _, rfl, Lib.hid fun x h1 h2 => absurd h1 (by omega), Lib.hid fun x h1 h2 => absurd h1 (by omega)⟩
  case round =>
    obtain ⟨I, J, M, rfl, rfl, hmI, hIJ, hJb, hw, HL, HU⟩ := hrel
    by_cases hlt : I < J
    · obtain ⟨h1, h2, h3⟩ := half I J (by omega)
      obtain ⟨H, hH⟩ : ∃ H, H = (I + J) / 2 := ⟨_, rfl⟩
      rw [← hH] at h3
      have hIH : I ≤ H := by omega
      have hHJ : H < J := by omega
      have hHn : (H : Int) < (n : Int) := by omega
      have hmn' : (m : Int) < (n : Int) := by omega
      have HK := Lib.hid (HC.out w (grown_refl _ _) (f m) (f H) (HN.out m hmn) (HN.out H (by omega)))
      have c1 : ∀ M, (w.drewN M).cell? ⟨g, H, none⟩ = some (.int .i64 (f H : Int)) := fun M => HR.out.cell (by omega)
      have c2 : ∀ M, (w.drewN M).cell? ⟨g, m, none⟩ = some (.int .i64 (f m : Int)) := fun M => HR.out.cell (by omega)
      obtain ⟨v, hv⟩ : ∃ v, v = cmp3 (key (f m)) (key (f H)) := ⟨_, rfl⟩
      rw [← hv] at HK
      have HV := Lib.hid hv
      clear hv hH
      obtain ⟨x, hx⟩ : ∃ x, x = f H := ⟨_, rfl⟩
      obtain ⟨y, hy⟩ : ∃ y, y = f m := ⟨_, rfl⟩
      rw [← hx, ← hy] at HK
      rw [← hx] at c1
      rw [← hy] at c2
      have Hx := Lib.hid hx
      have Hy := Lib.hid hy
      clear hx hy
      have c1' := c1 M
      have c2' := c2 M
      rw [← hw] at c1' c2'
      have HKw : Hid (∀ m : Nat, Calls Try.prog 14 #[.int .i64 (y : Int), .int .i64 (x : Int), .pointer (some ⟨gb, 0, none⟩)] (wr.drewN m) fun e w' => e = .returned (.int .i64 v) ∧ ∃ q, w' = (wr.drewN m).drewN q) := Lib.hid fun m => by
        rw [hw, World.drewN_drewN]
        exact HK.out _
      have HW := Lib.hid hw
      clear HK c1 c2 hw
      by_cases hlv : v < 0
      · have HL2 := Lib.hid hlv
        go_wp2_with fail
        go_quiet ((go_at_call 14; exact Calls.quiet_of (HKw.out _)))
        go_wp2
        go_roundw
        case rel =>
          refine ⟨I, H, M + nq, rfl, rfl, hmI, hIH, by omega, by rw [HW.out, World.drewN_drewN], HL, Lib.hid fun z h1 h2 => ?_⟩
          have h3 := HL2.out
          have h4 := HV.out
          have h5 : key (f m) < key (f H) := cmp3_lt.1 (by rw [← h4]; omega)
          exact Nat.le_trans (Nat.le_of_lt h5) (HS.out H z (by omega) h1 h2)
        case measure => simp [intOf]; omega
      · have hlv' : decide (v < 0) = false := decide_eq_false hlv
        have HL2 := Lib.hid hlv
        go_wp2_with fail
        go_quiet ((go_at_call 14; exact Calls.quiet_of (HKw.out _)))
        go_wp2
        go_roundw
        case rel =>
          refine ⟨H + 1, J, M + nq, by go_num, rfl, by omega, by omega, hJb, by rw [HW.out, World.drewN_drewN], Lib.hid fun z h1 h2 => ?_, HU⟩
          have h3 := HL2.out
          have h4 := HV.out
          have h5 : ¬ key (f m) < key (f H) := fun h => by
            have := cmp3_lt.2 h
            rw [← h4] at this
            omega
          exact Nat.le_trans (HS.out z H h1 (by omega) (by omega)) (Nat.le_of_not_lt h5)
        case measure => simp [intOf]; omega
    · obtain rfl : I = J := by omega
      have HRw : Hid (Row wr g n f) := Lib.hid (by rw [hw]; exact HR.out)
      have HGw : Hid (w.grownBy wr (some g)) := Lib.hid (by rw [hw]; exact grown_drewN _ _ _)
      have hd : decide ((I : Int) < (I : Int)) = false := decide_eq_false (by omega)
      clear hw hlt HR
      go_wp2
      go_loopw [17] (fun k wr2 => ∃ K : Nat, k = .int .i64 K ∧ I ≤ K ∧ K ≤ m ∧ Row wr2 g n (rot K m (m + 1) f) ∧ w.grownBy wr2 (some g)) (fun k _ => (intOf k).toNat)
      case atStart => exact ⟨m, rfl, hJb, Nat.le_refl _, by rw [rot_right _ _ _ (by omega)]; exact HRw.out, HGw.out⟩
      case round =>
        clear HRw HGw
        obtain ⟨K, rfl, haK, hKI, hrow, hgr⟩ := hrel
        have HG := Lib.hid hgr
        by_cases hlt : I < K
        · obtain ⟨q, rfl⟩ : ∃ q, K = q + 1 := ⟨K - 1, by omega⟩
          obtain ⟨i, hi⟩ : ∃ i, i = q + 1 := ⟨_, rfl⟩
          have HI := Lib.hid hi
          obtain ⟨c1, c2, f1, f2, h3⟩ := hrow.facts (i := i) (j := q) (by omega) (by omega)
          have HX := Lib.hid (hrow.xch i q)
          have HY := Lib.hid (Row.grown wr g i q (.int .i64 ((rot (q + 1) m (m + 1) f) q : Int)) (.int .i64 ((rot (q + 1) m (m + 1) f) i : Int)))
          have HF : Hid (xch i q (rot (q + 1) m (m + 1) f) = rot q m (m + 1) f) := Lib.hid (by rw [hi]; exact rot_down q m f hKI)
          rw [HF.out] at HX
          generalize rot (q + 1) m (m + 1) f = F at c1 c2 h3 HX HY
          obtain ⟨u, c3⟩ := h3 (.int .i64 (F q : Int))
          generalize F i = x at c1 HX HY
          generalize F q = y at c2 c3 HX HY
          have p1 : ((q : Int) + 1).toNat = i := by omega
          have p2 : (0 : Int) ≤ (q : Int) + 1 := by omega
          have p3 : (q : Int) + 1 < (n : Int) := by omega
          have p4 : (q : Int) < (n : Int) := by omega
          have p5 : (I : Int) < (q : Int) + 1 := by omega
          have p6 : IntKind.i64.wrap (q : Int) = (q : Int) := by rw [IntKind.wrap_i64]; omega
          clear h3 hrow hgr hi HF
          go_wp2_with fail
          go_big_region_o
          clear c1 c2 c3 f1 f2
          go_wp2
          go_roundw
          case rel => exact ⟨q, by go_num, by omega, by omega, HX.out, grown_trans HG.out (grown_trans HY.out (grown_drew _ _))⟩
          case measure => simp [intOf]
        · have e : K = I := by omega
          subst e
          have HX := Lib.hid hrow
          have hd2 : decide ((K : Int) > (K : Int)) = false := decide_eq_false (by omega)
          clear hrow hgr
          go_wp2
          refine bodyPost_ret (results_none rfl _ _ _) rfl ?_
          have hB := HB.out
          subst hB
          exact ⟨rfl, _, HX.out, (mix_rot f (by omega) (by omega)).mono (by omega) (Nat.le_refl _), rise_down (by omega) (by omega) HS.out HL.out HU.out, HG.out⟩
end Go.Proofs.Ythdgkhigekogiaa
