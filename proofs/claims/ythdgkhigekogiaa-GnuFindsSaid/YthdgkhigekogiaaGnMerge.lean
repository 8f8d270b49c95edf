/-
  The contract of slices.symMergeCmpFunc at []int, under Order's comparison, at any two pieces whose keys rise: the keys rise from a to b, and nothing else is touched.
-/
import Derived.Test.YthdgkhigekogiaaGnMergeB
import Derived.Test.YthdgkhigekogiaaCutIn
namespace Go.Proofs.Ythdgkhigekogiaa
open Go.RowKit

/-- What is asked, and told, of a merge. -/
def SymAt (g n c gb N : Nat) (key : Nat → Nat) (s : Nat) : Prop := ∀ (a m b : Nat) (f : Nat → Nat) (w : World), b - a ≤ s → Row w g n f → (∀ W, w.grownBy W (some g) → CmpAt gb N key W) → (∀ x, x < n → f x < N) → a < m → m < b → b ≤ n → Rise key a m f → Rise key m b f →
  Calls Try.prog 39 #[.slice (some ⟨g, 0, none⟩) n c, .int .i64 a, .int .i64 m, .int .i64 b, cmpF gb] w (Merged g n a b key f w)

set_option maxHeartbeats 8000000 in
set_option maxRecDepth 100000 in
theorem sym_three (g n c a m b gb N s0 : Nat) (key f : Nat → Nat) (w : World) (ih : SymAt g n c gb N key s0) (hs : b - a ≤ s0 + 1) (hr : Row w g n f) (hcmp : ∀ W, w.grownBy W (some g) → CmpAt gb N key W) (hf : ∀ x, x < n → f x < N) (ham : a < m) (hmb : m < b) (hm : m ≠ a + 1) (hbm : b ≠ m + 1) (hb : b ≤ n) (hn : n ≤ c) (hc : c ≤ maxLen) (hbig : n < 4611686018427387904) (h1 : Rise key a m f) (h2 : Rise key m b f) :
    Calls Try.prog 39 #[.slice (some ⟨g, 0, none⟩) n c, .int .i64 a, .int .i64 m, .int .i64 b, cmpF gb] w (Merged g n a b key f w) := by
  have hcm := Lib.hid hc
  unfold maxLen at hc
  have HR := Lib.hid hr
  have HC := Lib.hid hcmp
  have HN := Lib.hid hf
  have HL := Lib.hid h1
  have HU := Lib.hid h2
  have IH := Lib.hid ih
  have HS := Lib.hid hs
  obtain ⟨D, hD⟩ : ∃ D, D = m - a := ⟨_, rfl⟩
  obtain ⟨E, hE⟩ : ∃ E, E = b - m := ⟨_, rfl⟩
  have s1 : IntKind.i64.wrap ((m : Int) - (a : Int)) = (D : Int) := by rw [IntKind.wrap_i64]; omega
  have s2 : ((D : Int) == 1) = false := by simp; omega
  have s3 : IntKind.i64.wrap ((b : Int) - (m : Int)) = (E : Int) := by rw [IntKind.wrap_i64]; omega
  have s4 : ((E : Int) == 1) = false := by simp; omega
  obtain ⟨t1, t2, t3⟩ := half a b (by omega)
  obtain ⟨d, hd⟩ : ∃ d, d = (a + b) / 2 := ⟨_, rfl⟩
  rw [← hd] at t3
  have HD := Lib.hid hd
  have hda : a ≤ d := by omega
  have hdb : d < b := by omega
  have t4 : IntKind.i64.wrap ((d : Int) + (m : Int)) = (d : Int) + (m : Int) := by rw [IntKind.wrap_i64]; omega
  obtain ⟨P, hP⟩ : ∃ P, P = d + m - 1 := ⟨_, rfl⟩
  have t5 : IntKind.i64.wrap ((d : Int) + (m : Int) - 1) = (P : Int) := by rw [IntKind.wrap_i64]; omega
  have HP := Lib.hid hP
  have hPn : P < 2 * n := by omega
  have hS0 : symS a m b = if d < m then d + m - b else a := by rw [hd]; rfl
  have hR0 : symR a m b = if d < m then d else m := by rw [hd]; rfl
  have hSR := sym_le ham hmb
  have hRm := (symR_le (a := a) (m := m) (b := b))
  rw [← hd] at hRm
  clear hr hcmp hf h1 h2 ih hs hm hbm hD hE
  have hcase : (∃ x : Nat, d < m ∧ (d : Int) < (m : Int) ∧ IntKind.i64.wrap ((d : Int) + (m : Int) - (b : Int)) = (x : Int) ∧ Hid (x = symS a m b) ∧ Hid (d = symR a m b)) ∨ (decide (d < m) = false ∧ decide ((d : Int) < (m : Int)) = false ∧ Hid (a = symS a m b) ∧ Hid (m = symR a m b)) := by
    by_cases h : d < m
    · refine .inl ⟨d + m - b, h, by omega, by rw [IntKind.wrap_i64]; omega, Lib.hid (by rw [hS0, if_pos h]), Lib.hid (by rw [hR0, if_pos h])⟩
    · exact .inr ⟨decide_eq_false h, decide_eq_false (by omega), Lib.hid (by rw [hS0, if_neg h]), Lib.hid (by rw [hR0, if_neg h])⟩
  clear hS0 hR0 hd hP
  unfold cmpF
  go_enter Try.func39, Try.ntmps39
  rcases hcase with ⟨x0, hdm, hdz, t6, HS0, HR0⟩ | ⟨t6, t7, HS0, HR0⟩
  all_goals
    go_wp2
    clear s1 s2 s3 s4 t1 t2 t3
    rename_i K1 hK1
    have HK1 := Lib.hid hK1
    clear hK1
    go_loopw [20, 21] (fun i j wr => ∃ (I J M : Nat), i = .int .i64 I ∧ j = .int .i64 J ∧ symS a m b ≤ I ∧ I ≤ J ∧ J ≤ symR a m b ∧ wr = w.drewN M ∧ Hid (∀ x, symS a m b ≤ x → x < I → key (f x) ≤ key (f (P - x))) ∧ Hid (∀ x, J ≤ x → x < symR a m b → key (f (P - x)) < key (f x))) (fun i j _ => (intOf j).toNat - (intOf i).toNat)
    case atStart => exact ⟨symS a m b, symR a m b, 0, by rw [← HS0.out], by rw [← HR0.out], Nat.le_refl _, hSR, Nat.le_refl _, rfl, Lib.hid fun x h1 h2 => absurd h1 (by omega), Lib.hid fun x h1 h2 => absurd h1 (by omega)⟩
    case round =>
      obtain ⟨I, J, M, rfl, rfl, hmI, hIJ, hJb, hw, HA, HB⟩ := hrel
      by_cases hlt : I < J
      · obtain ⟨h1, h2, h3⟩ := half I J (by omega)
        obtain ⟨H, hH⟩ : ∃ H, H = (I + J) / 2 := ⟨_, rfl⟩
        rw [← hH] at h3
        have hIH : I ≤ H := by omega
        have hHJ : H < J := by omega
        have hA := sym_at ham (Nat.le_trans hmI hIH) (Nat.lt_of_lt_of_le hHJ hJb)
        have eP : (a + b) / 2 + m - 1 = P := by rw [← HD.out]; exact HP.out.symm
        rw [eP] at hA
        obtain ⟨a1, a2, a3, a4, a5⟩ := hA
        obtain ⟨Q, hQ⟩ : ∃ Q, Q = P - H := ⟨_, rfl⟩
        rw [← hQ] at a3 a4
        have h4 : IntKind.i64.wrap ((P : Int) - (H : Int)) = (Q : Int) := by rw [IntKind.wrap_i64]; omega
        have hHn : (H : Int) < (n : Int) := by omega
        have hQn : (Q : Int) < (n : Int) := by omega
        have HK := Lib.hid (HC.out w (grown_refl _ _) (f Q) (f H) (HN.out Q (by omega)) (HN.out H (by omega)))
        have c1 : (w.drewN M).cell? ⟨g, H, none⟩ = some (.int .i64 (f H : Int)) := HR.out.cell (by omega)
        have c2 : (w.drewN M).cell? ⟨g, Q, none⟩ = some (.int .i64 (f Q : Int)) := HR.out.cell (by omega)
        obtain ⟨v, hv⟩ : ∃ v, v = cmp3 (key (f Q)) (key (f H)) := ⟨_, rfl⟩
        rw [← hv] at HK
        have HV := Lib.hid hv
        have HQ := Lib.hid hQ
        have EP := Lib.hid eP
        clear hv hH eP a1 a2 a3 a4 a5 hQ
        obtain ⟨x, hx⟩ : ∃ x, x = f H := ⟨_, rfl⟩
        obtain ⟨y, hy⟩ : ∃ y, y = f Q := ⟨_, rfl⟩
        rw [← hx, ← hy] at HK
        rw [← hx] at c1
        rw [← hy] at c2
        clear hx hy
        rw [← hw] at c1 c2
        have HKw : Hid (∀ m : Nat, Calls Try.prog 14 #[.int .i64 (y : Int), .int .i64 (x : Int), .pointer (some ⟨gb, 0, none⟩)] (wr.drewN m) fun e w' => e = .returned (.int .i64 v) ∧ ∃ q, w' = (wr.drewN m).drewN q) := Lib.hid fun m => by
          rw [hw, World.drewN_drewN]
          exact HK.out _
        have HW := Lib.hid hw
        have mixed : Try.prog.follows .mixedOrders = true := by kernel_rfl
        clear HK hw
        by_cases hlv : v < 0
        · have HL2 := Lib.hid hlv
          go_wp2_with fail
          go_quiet ((go_at_call 14; exact Calls.quiet_of (HKw.out _)))
          go_wp2
          go_roundw
          case rel =>
            have h5 : key (f Q) < key (f H) := cmp3_lt.1 (by have h3 := HL2.out; rw [← HV.out]; omega)
            have e := EP.out
            rw [HQ.out, ← e] at h5
            have := search_down ham HL.out HU.out (Nat.le_trans hmI hIH) hHJ hJb h5
            rw [e] at this
            exact ⟨I, H, M + nq, rfl, rfl, hmI, hIH, by omega, by rw [HW.out, World.drewN_drewN], HA, Lib.hid this⟩
          case measure => simp [intOf]; omega
        · have hlv' : decide (v < 0) = false := decide_eq_false hlv
          have HL2 := Lib.hid hlv
          go_wp2_with fail
          go_quiet ((go_at_call 14; exact Calls.quiet_of (HKw.out _)))
          go_wp2
          go_roundw
          case rel =>
            have h5 : key (f H) ≤ key (f Q) := by
              rcases Nat.lt_or_ge (key (f Q)) (key (f H)) with h | h
              · have h6 := cmp3_lt.2 h
                have h7 := HL2.out
                rw [← HV.out] at h6
                omega
              · exact h
            have e := EP.out
            rw [HQ.out, ← e] at h5
            have := search_up ham HL.out HU.out hmI hIH (Nat.lt_of_lt_of_le hHJ hJb) h5
            rw [e] at this
            exact ⟨H + 1, J, M + nq, by go_num, rfl, by omega, by omega, hJb, by rw [HW.out, World.drewN_drewN], Lib.hid this, HB⟩
          case measure => simp [intOf]; omega
      · obtain rfl : I = J := by omega
        have hd : decide ((I : Int) < (I : Int)) = false := decide_eq_false (by omega)
        have hIm : I ≤ m := by omega
        have hId : I ≤ d := by omega
        obtain ⟨e, he⟩ : ∃ e, e = d + m - I := ⟨_, rfl⟩
        have t8 : IntKind.i64.wrap ((d : Int) + (m : Int) - (I : Int)) = (e : Int) := by rw [IntKind.wrap_i64]; omega
        have HE := Lib.hid he
        have hme : m ≤ e := by omega
        have hde : d ≤ e := by omega
        have HH : Hid (Halves key a m b I (rot I m e f)) := by
          refine Lib.hid ?_
          have eP : (a + b) / 2 + m - 1 = P := by rw [← HD.out]; exact HP.out.symm
          have := halves ham hmb HL.out HU.out hmI hJb (by rw [eP]; exact HA.out) (by rw [eP]; exact HB.out)
          rw [← HD.out, ← he] at this
          exact this
        have HRw : Hid (Row wr g n f) := Lib.hid (by rw [hw]; exact HR.out)
        have HGw : Hid (w.grownBy wr (some g)) := Lib.hid (by rw [hw]; exact grown_drewN _ _ _)
        have heb : e ≤ b := by have := HH.out.eb; rw [← HD.out] at this; omega
        have hdn : d ≤ n := by omega
        clear HA HB HR hw hmI hIJ hJb hlt he
        go_wp2
        clear hd
        apply HK1.out
        clear HK1
        apply wp_seq_k
        intro K2 hK2
        have HK2 := Lib.hid hK2
        clear hK2
        go_wp2
        apply HK2.out
        clear HK2 t4 t5 t6 t8
        apply wp_seq_k
        intro K3 hK3
        refine wp_cut (fun A A' w' => (Row w' g n (rot I m e f) ∧ w.grownBy w' (some g)) ∧ A' = ⟨(A.tmps.toList.take 178 ++ (A'.tmps.toList.drop 178).take 14 ++ A.tmps.toList.drop 192).toArray, A.defers⟩ ∧ ((A'.tmps.toList.drop 178).take 14).length = 14) ?_ ?_
        · by_cases q1 : I < m
          · by_cases q2 : m < e
            · have z1 : (I : Int) < (m : Int) := by omega
              have z2 : (m : Int) < (e : Int) := by omega
              have q3 : e ≤ n := by omega
              go_wp2_with (go_at_call 40; refine (rotate_any g n c I m e _ f wr HRw.out q1 q2 q3 hn hcm.out).mono ?_; rintro e' w' ⟨rfl, hrow, hgr⟩)
              exact grown_trans HGw.out hgr
            · have z1 : (I : Int) < (m : Int) := by omega
              have z2 : decide ((m : Int) < (e : Int)) = false := decide_eq_false (by omega)
              have z3 : decide (m < e) = false := decide_eq_false q2
              have HX : Hid (Row wr g n (rot I m e f)) := Lib.hid (by rw [show e = m by omega, rot_left]; exact HRw.out)
              clear q2
              go_wp2
              exact ⟨HX.out, HGw.out⟩
          · have z2 : decide ((I : Int) < (m : Int)) = false := decide_eq_false (by omega)
            have z3 : decide (I < m) = false := decide_eq_false q1
            have HX : Hid (Row wr g n (rot I m e f)) := Lib.hid (by rw [show I = m by omega, rot_right _ _ _ (by omega)]; exact HRw.out)
            clear q1
            go_wp2
            exact ⟨HX.out, HGw.out⟩
        · rintro A' w1 ⟨⟨hrow1, hgr1⟩, hA, hl⟩
          generalize (A'.tmps.toList.drop 178).take 14 = vs at hA hl
          obtain ⟨b0, b1, b2, b3, b4, b5, b6, b7, b8, b9, b10, b11, b12, b13, rfl⟩ := list14 hl
          subst hA
          clear hl HRw HGw
          apply hK3
          simp only [List.take_succ_cons, List.take_zero, List.drop_succ_cons, List.drop_zero, List.cons_append, List.nil_append]
          clear hK3
          have HR1 := Lib.hid hrow1
          have HG1 := Lib.hid hgr1
          have HM1 : Hid (Mix a b f (rot I m e f)) := Lib.hid ((mix_rot f hIm hme).mono (by have := HH.out.as; omega) heb)
          obtain ⟨h, hh⟩ : ∃ h, h = rot I m e f := ⟨_, rfl⟩
          rw [← hh] at HR1 HM1 HH
          have haI : a ≤ I := HH.out.as
          clear hrow1 hgr1 hh
          apply wp_seq_k
          intro K4 hK4
          refine wp_cut (fun A A' w' => (∃ g1, Row w' g n g1 ∧ Mix a d h g1 ∧ Rise key a d g1 ∧ w.grownBy w' (some g)) ∧ A' = ⟨(A.tmps.toList.take 192 ++ (A'.tmps.toList.drop 192).take 14 ++ A.tmps.toList.drop 206).toArray, A.defers⟩ ∧ ((A'.tmps.toList.drop 192).take 14).length = 14) ?_ ?_
          · by_cases q1 : a < I
            · by_cases q2 : I < d
              · have z1 : (a : Int) < (I : Int) := by omega
                have z2 : (I : Int) < (d : Int) := by omega
                have HJ := Lib.hid (IH.out a I d h w1 (by have := HS.out; omega) HR1.out (fun W hW => HC.out W (grown_trans HG1.out hW)) (HM1.out.lt hb HN.out) q1 q2 hdn HH.out.r1 (by have := HH.out.r2; rwa [← HD.out] at this))
                unfold cmpF at HJ
                go_wp2_with (go_at_call 39; refine HJ.out.mono ?_; rintro e' w' ⟨rfl, g1, hrow, hmix, hrise, hgr⟩)
                exact ⟨g1, hrow, hmix, hrise, grown_trans HG1.out hgr⟩
              · have z1 : (a : Int) < (I : Int) := by omega
                have z2 : decide ((I : Int) < (d : Int)) = false := decide_eq_false (by omega)
                have z3 : decide (I < d) = false := decide_eq_false q2
                have HX : Hid (Rise key a d h) := Lib.hid (by have := HH.out.r1; rwa [show I = d by omega] at this)
                clear q2
                go_wp2
                exact ⟨h, HR1.out, Mix.refl _ _ _, HX.out, HG1.out⟩
            · have z2 : decide ((a : Int) < (I : Int)) = false := decide_eq_false (by omega)
              have z3 : decide (a < I) = false := decide_eq_false q1
              have HX : Hid (Rise key a d h) := Lib.hid (by have := HH.out.r2; rwa [show I = a by omega, ← HD.out] at this)
              clear q1
              go_wp2
              exact ⟨h, HR1.out, Mix.refl _ _ _, HX.out, HG1.out⟩
          · rintro A' w2 ⟨⟨g1, hrow2, hmix2, hrise2, hgr2⟩, hA, hl⟩
            generalize (A'.tmps.toList.drop 192).take 14 = vs at hA hl
            obtain ⟨d0, d1, d2, d3, d4, d5, d6, d7, d8, d9, d10, d11, d12, d13, rfl⟩ := list14 hl
            subst hA
            clear hl HR1 HG1
            apply hK4
            simp only [List.take_succ_cons, List.take_zero, List.drop_succ_cons, List.drop_zero, List.cons_append, List.nil_append]
            clear hK4
            have HR2 := Lib.hid hrow2
            have HG2 := Lib.hid hgr2
            have HM2 := Lib.hid hmix2
            have HT2 := Lib.hid hrise2
            have HM3 : Hid (Mix a b f g1) := Lib.hid (HM1.out.trans (hmix2.mono (Nat.le_refl _) (by omega)))
            have HLE : Hid (∀ x y, a ≤ x → x < d → d ≤ y → y < b → key (h x) ≤ key (h y)) := Lib.hid (by have := HH.out.le; rwa [← HD.out] at this)
            have HR3 : Hid (Rise key d e g1) := Lib.hid (by
              have := HH.out.r3
              rw [← HD.out, ← HE.out] at this
              exact this.of_mix hmix2 (.inr (Nat.le_refl _)))
            have HR4 : Hid (Rise key e b g1) := Lib.hid (by
              have := HH.out.r4
              rw [← HD.out, ← HE.out] at this
              exact this.of_mix hmix2 (.inr hde))
            clear hrow2 hgr2 hmix2 hrise2
            by_cases q1 : d < e
            · by_cases q2 : e < b
              · have z1 : (d : Int) < (e : Int) := by omega
                have z2 : (e : Int) < (b : Int) := by omega
                have HJ := Lib.hid (IH.out d e b g1 w2 (by have := HS.out; have := HD.out; omega) HR2.out (fun W hW => HC.out W (grown_trans HG2.out hW)) (HM3.out.lt hb HN.out) q1 q2 hb HR3.out HR4.out)
                unfold cmpF at HJ
                go_wp2_with (go_at_call 39; refine HJ.out.mono ?_; rintro e' w' ⟨rfl, g2, hrow, hmix, hrise, hgr⟩)
                go_end0
                exact ⟨rfl, g2, hrow, HM3.out.trans (hmix.mono hda (Nat.le_refl _)), rise_halves HLE.out HM2.out HT2.out hmix hrise, grown_trans HG2.out hgr⟩
              · have z1 : (d : Int) < (e : Int) := by omega
                have z2 : decide ((e : Int) < (b : Int)) = false := decide_eq_false (by omega)
                have z3 : decide (e < b) = false := decide_eq_false q2
                have HX : Hid (Rise key d b g1) := Lib.hid (by have := HR3.out; rwa [show e = b by omega] at this)
                clear q2
                go_wp2
                go_end0
                exact ⟨rfl, g1, HR2.out, HM3.out, rise_halves HLE.out HM2.out HT2.out (Mix.refl _ _ _) HX.out, HG2.out⟩
            · have z2 : decide ((d : Int) < (e : Int)) = false := decide_eq_false (by omega)
              have z3 : decide (d < e) = false := decide_eq_false q1
              have HX : Hid (Rise key d b g1) := Lib.hid (by have := HR4.out; rwa [show e = d by omega] at this)
              clear q1
              go_wp2
              go_end0
              exact ⟨rfl, g1, HR2.out, HM3.out, rise_halves HLE.out HM2.out HT2.out (Mix.refl _ _ _) HX.out, HG2.out⟩

theorem sym_any (g n c gb N : Nat) (key : Nat → Nat) (hn : n ≤ c) (hc : c ≤ maxLen) (hbig : n < 4611686018427387904) : ∀ s, SymAt g n c gb N key s
  | 0 => fun a m b f w h _ _ _ h1 h2 => absurd h (by omega)
  | s + 1 => fun a m b f w h hr hcmp hf ham hmb hb h1 h2 => by
    by_cases e1 : m = a + 1
    · exact sym_one g n c a m b gb N key f w hr hcmp hf e1 hmb hb hn hc hbig h2
    · by_cases e2 : b = m + 1
      · exact sym_two g n c a m b gb N key f w hr hcmp hf ham e1 e2 hb hn hc hbig h1
      · exact sym_three g n c a m b gb N s key f w (sym_any g n c gb N key hn hc hbig s) h hr hcmp hf ham hmb e1 e2 hb hn hc hbig h1 h2
end Go.Proofs.Ythdgkhigekogiaa
