/-
  Several texts in one: A region that draws its order, walked along a tree of orders; A stop in the walk behind a part of the code; A stop in the walk behind a loop that is left by its block's exit; The contract of slices; The contracts of slices.
-/
import Derived.Test.YtfbimboemahhhaaGreatDoorTfG1
import Derived.Test.YtfbimboemahhhaaGreatDoorTfG4
import Derived.Test.YtfbimboemahhhaaGreatDoorTfG16
namespace Go.Proofs.YtfbimboemahhhaaGreatDoor
open Go.Lib (hid)
open Go.RowKit
inductive Tr where
 | done
 | chain (c : Chain) (t : Tr)
 | both (i : Nat) (s : Tr) (j : Nat) (t : Tr)
def Tr.len : Tr → Nat
 | .done => 0
 | .chain c t => c.length + t.len
 | .both _ s _ _ => s.len + 1
def Tr.ok (ops : Array Oper) : Tr → Array Bool → Bool
 | .done, l => Region.ready .any ops l == []
 | .chain c t, l => Chain.ok ops c l && t.ok ops (Chain.after l c)
 | .both i s j t, l => (Region.ready .any ops l == [i, j]) && s.ok ops (l.setIfInBounds i true) && t.ok ops (l.setIfInBounds j true) && (s.len == t.len)
def wpTr (P : Program) (ops : Array Oper) (Q : Exit → Act → World → Prop) (Y : World → World → Prop) : Tr → Act → World → Prop
 | .done, a, w => Q .normal a w
 | .chain c t, a, w => wpChain P ops (NoPanic Q) Y (fun a w => wpTr P ops Q Y t a w) c a w
 | .both i s j t, a, w => wpOp P ops (NoPanic Q) i (fun a' w' => Y w w' ∧ wpTr P ops Q Y s a' w') a w ∧ wpOp P ops (NoPanic Q) j (fun a' w' => Y w w' ∧ wpTr P ops Q Y t a' w') a w
section
variable {P : Program} {ops : Array Oper} {Q : Exit → Act → World → Prop} {Y : World → World → Prop}
theorem wpTr_sound (hy : Leap Y) (hs : Region.noSelect ops = true) : ∀ (t : Tr) (l : Array Bool) (a : Act) (w : World), t.ok ops l = true → wpTr P ops Q Y t a w → wpAnyH P .any ops (NoPanic Q) (Y w) t.len l a w
 | .done, l, a, w, hB, h => ⟨by simpa [Tr.ok] using hB, h⟩
 | .chain c t, l, a, w, hB, h => by
  simp only [Tr.ok, Bool.and_eq_true] at hB
  have := wpChain_sound (P := P) (ops := ops) (Q := NoPanic Q) (Y := Y) (R := fun a w => wpTr P ops Q Y t a w) hy hs (fun _ _ _ h => h) t.len c l a w (fun a w h => wpTr_sound hy hs t _ a w hB.2 h) hB.1 h
  rwa [Nat.add_comm] at this
 | .both i s j t, l, a, w, hB, h => by
  simp only [Tr.ok, Bool.and_eq_true] at hB
  obtain ⟨⟨⟨b1, b2⟩, b3⟩, b4⟩ := hB
  refine wpAnyH_all (rs := [i, j]) (by simpa using b1) (by simp) ?_
  intro k hk
  by_cases hki : k = i
  ·subst hki
   exact wpOp_mono (fun a' w' h' => ⟨h'.1, wpAnyH_weaken (fun W hW => hy.trans _ _ _ h'.1 hW) _ _ _ _ (wpTr_sound hy hs s _ a' w' b2 h'.2)⟩) h.1
  ·obtain rfl : k = j := by
    rcases List.mem_cons.1 hk with e1 | e1
    ·exact absurd e1 hki
    ·simpa using e1
   have e : s.len = t.len := by simpa using b4
   rw [e]
   exact wpOp_mono (fun a' w' h' => ⟨h'.1, wpAnyH_weaken (fun W hW => hy.trans _ _ _ h'.1 hW) _ _ _ _ (wpTr_sound hy hs t _ a' w' b3 h'.2)⟩) h.2
theorem wp_region_tree (hy : Leap Y) {id : Nat} {a : Act} {w : World} (t : Tr) (hm : P.follows .mixedOrders = true) (hs : Region.noSelect ops = true)
  (hB : (t.ok ops (Array.replicate ops.size false) && (t.len == ops.size)) = true) (h : wpTr P ops Q Y t a w.drew) : (Code.region id ops true).wp P Q a w := by
 simp only [Bool.and_eq_true] at hB
 have hl : t.len = ops.size := by simpa using hB.2
 refine wp_region_noPanic (wp_region_held (S := Y w.drew) hm ?_)
 have := wpTr_sound (P := P) (ops := ops) (Q := Q) (Y := Y) hy hs t _ a w.drew hB.1 h
 rwa [hl] at this
theorem tr_done {a : Act} {w : World} (h : Q .normal a w) : wpTr P ops Q Y .done a w := h
theorem tr_chain {c : Chain} {t : Tr} {a : Act} {w : World} (h : wpChain P ops (NoPanic Q) Y (fun a w => wpTr P ops Q Y t a w) c a w) : wpTr P ops Q Y (.chain c t) a w := h
theorem tr_both {i j : Nat} {s t : Tr} {a : Act} {w : World} (h1 : wpOp P ops (NoPanic Q) i (fun a' w' => Y w w' ∧ wpTr P ops Q Y s a' w') a w) (h2 : wpOp P ops (NoPanic Q) j (fun a' w' => Y w w' ∧ wpTr P ops Q Y t a' w') a w) :
  wpTr P ops Q Y (.both i s j t) a w := ⟨h1, h2⟩
end
attribute [irreducible] wpTr
theorem wp_cut {P : Program} {c : Code} {a : Act} {w : World} {K : Act → World → Prop} {Q : Exit → Act → World → Prop} (I : Act → Act → World → Prop) (h : c.wp P (fun e a' w' => e = .normal ∧ I a a' w') a w) (hk : ∀ a' w', I a a' w' → K a' w') : c.wp P (Exit.then K Q) a w :=
 wp_mono h fun e a' w' ⟨he, hi⟩ => by subst he; exact hk a' w' hi
theorem list14 {l : List Value} (h : l.length = 14) : ∃ x0 x1 x2 x3 x4 x5 x6 x7 x8 x9 x10 x11 x12 x13, l = [x0, x1, x2, x3, x4, x5, x6, x7, x8, x9, x10, x11, x12, x13] := by
 match l, h with
 | [x0, x1, x2, x3, x4, x5, x6, x7, x8, x9, x10, x11, x12, x13], _ => exact ⟨_, _, _, _, _, _, _, _, _, _, _, _, _, _, rfl⟩
def SymAt (g n c gb N : Nat) (key : Nat → Nat) (s : Nat) : Prop := ∀ (a m b : Nat) (f : Nat → Nat) (w : World), b - a ≤ s → RowB w g n f → (∀ W, w.grownBy W (some g) → CmpAt gb N key W) → (∀ x, x < n → f x < N) → a < m → m < b → b ≤ n → Rise key a m f → Rise key m b f →
 Calls Tryz.prog 113 #[.slice (some ⟨g, 0, none⟩) n c, .int .i64 a, .int .i64 m, .int .i64 b, cmpF gb] w (Merged g n a b key f w)
set_option maxHeartbeats 8000000 in
set_option maxRecDepth 100000 in
theorem sym_three (g n c a m b gb N s0 : Nat) (key f : Nat → Nat) (w : World) (ih : SymAt g n c gb N key s0) (hs : b - a ≤ s0 + 1) (hr : RowB w g n f) (hcmp : ∀ W, w.grownBy W (some g) → CmpAt gb N key W) (hf : ∀ x, x < n → f x < N) (ham : a < m) (hmb : m < b) (hm : m ≠ a + 1) (hbm : b ≠ m + 1) (hb : b ≤ n) (hn : n ≤ c) (hc : c ≤ maxLen) (hbig : n < 4611686018427387904) (h1 : Rise key a m f) (h2 : Rise key m b f) :
  Calls Tryz.prog 113 #[.slice (some ⟨g, 0, none⟩) n c, .int .i64 a, .int .i64 m, .int .i64 b, cmpF gb] w (Merged g n a b key f w) := by
 have hcm := hid hc
 unfold maxLen at hc
 have HR := hid hr
 have HC := hid hcmp
 have HN := hid hf
 have HL := hid h1
 have HU := hid h2
 have IH := hid ih
 have HS := hid hs
 obtain ⟨D, hD⟩ : ∃ D, D = m - a := ⟨_, rfl⟩
 obtain ⟨E, hE⟩ : ∃ E, E = b - m := ⟨_, rfl⟩
 have s1 : IntKind.i64.wrap ((m : Int) - (a : Int)) = (D : Int) := by rw [IntKind.wrap_i64]; omega
 have s2 : ((D : Int) == 1) = false := by simp; omega
 have s3 : IntKind.i64.wrap ((b : Int) - (m : Int)) = (E : Int) := by rw [IntKind.wrap_i64]; omega
 have s4 : ((E : Int) == 1) = false := by simp; omega
 obtain ⟨t1, t2, t3⟩ := half a b (by omega)
 obtain ⟨d, hd⟩ : ∃ d, d = (a + b) / 2 := ⟨_, rfl⟩
 rw [← hd] at t3
 have HD := hid hd
 have hda : a ≤ d := by omega
 have hdb : d < b := by omega
 have t4 : IntKind.i64.wrap ((d : Int) + (m : Int)) = (d : Int) + (m : Int) := by rw [IntKind.wrap_i64]; omega
 obtain ⟨P, hP⟩ : ∃ P, P = d + m - 1 := ⟨_, rfl⟩
 have t5 : IntKind.i64.wrap ((d : Int) + (m : Int) - 1) = (P : Int) := by rw [IntKind.wrap_i64]; omega
 have HP := hid hP
 have hPn : P < 2 * n := by omega
 have hS0 : symS a m b = if d < m then d + m - b else a := by rw [hd]; rfl
 have hR0 : symR a m b = if d < m then d else m := by rw [hd]; rfl
 have hSR := sym_le ham hmb
 have hRm := (symR_le (a := a) (m := m) (b := b))
 rw [← hd] at hRm
 clear hr hcmp hf h1 h2 ih hs hm hbm hD hE
 have hcase : (∃ x : Nat, d < m ∧ (d : Int) < (m : Int) ∧ IntKind.i64.wrap ((d : Int) + (m : Int) - (b : Int)) = (x : Int) ∧ Hid (x = symS a m b) ∧ Hid (d = symR a m b)) ∨ (decide (d < m) = false ∧ decide ((d : Int) < (m : Int)) = false ∧ Hid (a = symS a m b) ∧ Hid (m = symR a m b)) := by
  by_cases h : d < m
  ·refine .inl ⟨d + m - b, h, by omega, by rw [IntKind.wrap_i64]; omega, hid (by rw [hS0, if_pos h]), hid (by rw [hR0, if_pos h])⟩
  ·exact .inr ⟨decide_eq_false h, decide_eq_false (by omega), hid (by rw [hS0, if_neg h]), hid (by rw [hR0, if_neg h])⟩
 clear hS0 hR0 hd hP
 unfold cmpF
 go_enter Tryz.func113, Tryz.ntmps113
 rcases hcase with ⟨x0, hdm, hdz, t6, HS0, HR0⟩ | ⟨t6, t7, HS0, HR0⟩
 all_goals
  go_wp2
  clear s1 s2 s3 s4 t1 t2 t3
  rename_i K1 hK1
  have HK1 := hid hK1
  clear hK1
  go_loopw [20, 21] (fun i j wr => ∃ (I J M : Nat), i = .int .i64 I ∧ j = .int .i64 J ∧ symS a m b ≤ I ∧ I ≤ J ∧ J ≤ symR a m b ∧ wr = w.drewN M ∧ Hid (∀ x, symS a m b ≤ x → x < I → key (f x) ≤ key (f (P - x))) ∧ Hid (∀ x, J ≤ x → x < symR a m b → key (f (P - x)) < key (f x))) (fun i j _ => (intOf j).toNat - (intOf i).toNat)
  case atStart => exact ⟨symS a m b, symR a m b, 0, by rw [← HS0.out], by rw [← HR0.out], Nat.le_refl _, hSR, Nat.le_refl _, rfl, hid fun x h1 h2 => absurd h1 (by omega), hid fun x h1 h2 => absurd h1 (by omega)⟩
  case round =>
   obtain ⟨I, J, M, rfl, rfl, hmI, hIJ, hJb, hw, HA, HB⟩ := hrel
   by_cases hlt : I < J
   ·obtain ⟨h1, h2, h3⟩ := half I J (by omega)
    obtain ⟨H, hH⟩ : ∃ H, H = (I + J) / 2 := ⟨_, rfl⟩
    rw [← hH] at h3
    have hIH : I ≤ H := by omega
    have hHJ : H < J := by omega
    have hA := sym_at ham (Nat.le_trans hmI hIH) (Nat.lt_of_lt_of_le hHJ hJb)
    have eP : (a + b) / 2 + m - 1 = P := by rw [← HD.out]; exact HP.out.symm
    rw [eP] at hA
    obtain ⟨a1, a2, a3, a4, a5⟩ := hA
    obtain ⟨Q, hQ⟩ : ∃ Q, Q = P - H := ⟨_, rfl⟩
    rw [← hQ] at a3 a4
    have h4 : IntKind.i64.wrap ((P : Int) - (H : Int)) = (Q : Int) := by rw [IntKind.wrap_i64]; omega
    have hHn : (H : Int) < (n : Int) := by omega
    have hQn : (Q : Int) < (n : Int) := by omega
    have HK := hid (HC.out w (grown_reflB _ _) (f Q) (f H) (HN.out Q (by omega)) (HN.out H (by omega)))
    have c1 : (w.drewN M).cell? ⟨g, H, none⟩ = some (.int .i64 (f H : Int)) := HR.out.cell (by omega)
    have c2 : (w.drewN M).cell? ⟨g, Q, none⟩ = some (.int .i64 (f Q : Int)) := HR.out.cell (by omega)
    obtain ⟨v, hv⟩ : ∃ v, v = cmp3 (key (f Q)) (key (f H)) := ⟨_, rfl⟩
    rw [← hv] at HK
    have HV := hid hv
    have HQ := hid hQ
    have EP := hid eP
    clear hv hH eP a1 a2 a3 a4 a5 hQ
    obtain ⟨x, hx⟩ : ∃ x, x = f H := ⟨_, rfl⟩
    obtain ⟨y, hy⟩ : ∃ y, y = f Q := ⟨_, rfl⟩
    rw [← hx, ← hy] at HK
    rw [← hx] at c1
    rw [← hy] at c2
    clear hx hy
    rw [← hw] at c1 c2
    have HKw : Hid (∀ m : Nat, Calls Tryz.prog 22 #[.int .i64 (y : Int), .int .i64 (x : Int), .pointer (some ⟨gb, 0, none⟩)] (wr.drewN m) fun e w' => e = .returned (.int .i64 v) ∧ ∃ q, w' = (wr.drewN m).drewN q) := hid fun m => by
     rw [hw, World.drewN_drewN]
     exact HK.out _
    have HW := hid hw
    have mixed : Tryz.prog.follows .mixedOrders = true := by kernel_rfl
    clear HK hw
    by_cases hlv : v < 0
    ·have HL2 := hid hlv
     go_wp2_with fail
     go_quiet ((go_at_call 22; exact Calls.quiet_of (HKw.out _)))
     go_wp2
     go_roundw
     case rel =>
      have h5 : key (f Q) < key (f H) := cmp3_lt.1 (by have h3 := HL2.out; rw [← HV.out]; omega)
      have e := EP.out
      rw [HQ.out, ← e] at h5
      have := search_down ham HL.out HU.out (Nat.le_trans hmI hIH) hHJ hJb h5
      rw [e] at this
      exact ⟨I, H, M + nq, rfl, rfl, hmI, hIH, by omega, by rw [HW.out, World.drewN_drewN], HA, hid this⟩
     case measure => simp [intOf]; omega
    ·have hlv' : decide (v < 0) = false := decide_eq_false hlv
     have HL2 := hid hlv
     go_wp2_with fail
     go_quiet ((go_at_call 22; exact Calls.quiet_of (HKw.out _)))
     go_wp2
     go_roundw
     case rel =>
      have h5 : key (f H) ≤ key (f Q) := by
       rcases Nat.lt_or_ge (key (f Q)) (key (f H)) with h | h
       ·have h6 := cmp3_lt.2 h
        have h7 := HL2.out
        rw [← HV.out] at h6
        omega
       ·exact h
      have e := EP.out
      rw [HQ.out, ← e] at h5
      have := search_up ham HL.out HU.out hmI hIH (Nat.lt_of_lt_of_le hHJ hJb) h5
      rw [e] at this
      exact ⟨H + 1, J, M + nq, by go_num, rfl, by omega, by omega, hJb, by rw [HW.out, World.drewN_drewN], hid this, HB⟩
     case measure => simp [intOf]; omega
   ·obtain rfl : I = J := by omega
    have hd : decide ((I : Int) < (I : Int)) = false := decide_eq_false (by omega)
    have hIm : I ≤ m := by omega
    have hId : I ≤ d := by omega
    obtain ⟨e, he⟩ : ∃ e, e = d + m - I := ⟨_, rfl⟩
    have t8 : IntKind.i64.wrap ((d : Int) + (m : Int) - (I : Int)) = (e : Int) := by rw [IntKind.wrap_i64]; omega
    have HE := hid he
    have hme : m ≤ e := by omega
    have hde : d ≤ e := by omega
    have HH : Hid (Halves key a m b I (rot I m e f)) := by
     refine hid ?_
     have eP : (a + b) / 2 + m - 1 = P := by rw [← HD.out]; exact HP.out.symm
     have := halves ham hmb HL.out HU.out hmI hJb (by rw [eP]; exact HA.out) (by rw [eP]; exact HB.out)
     rw [← HD.out, ← he] at this
     exact this
    have HRw : Hid (RowB wr g n f) := hid (by rw [hw]; exact HR.out)
    have HGw : Hid (w.grownBy wr (some g)) := hid (by rw [hw]; exact grown_drewN _ _ _)
    have heb : e ≤ b := by have := HH.out.eb; rw [← HD.out] at this; omega
    have hdn : d ≤ n := by omega
    clear HA HB HR hw hmI hIJ hJb hlt he
    go_wp2
    clear hd
    apply HK1.out
    clear HK1
    apply wp_seq_k
    intro K2 hK2
    have HK2 := hid hK2
    clear hK2
    go_wp2
    apply HK2.out
    clear HK2 t4 t5 t6 t8
    apply wp_seq_k
    intro K3 hK3
    refine wp_cut (fun A A' w' => (RowB w' g n (rot I m e f) ∧ w.grownBy w' (some g)) ∧ A' = ⟨(A.tmps.toList.take 178 ++ (A'.tmps.toList.drop 178).take 14 ++ A.tmps.toList.drop 192).toArray, A.defers⟩ ∧ ((A'.tmps.toList.drop 178).take 14).length = 14) ?_ ?_
    ·by_cases q1 : I < m
     ·by_cases q2 : m < e
      ·have z1 : (I : Int) < (m : Int) := by omega
       have z2 : (m : Int) < (e : Int) := by omega
       have q3 : e ≤ n := by omega
       go_wp2_with (go_at_call 141; refine (rotate_any g n c I m e _ f wr HRw.out q1 q2 q3 hn hcm.out).mono ?_; rintro e' w' ⟨rfl, hrow, hgr⟩)
       exact grown_transB HGw.out hgr
      ·have z1 : (I : Int) < (m : Int) := by omega
       have z2 : decide ((m : Int) < (e : Int)) = false := decide_eq_false (by omega)
       have z3 : decide (m < e) = false := decide_eq_false q2
       have HX : Hid (RowB wr g n (rot I m e f)) := hid (by rw [show e = m by omega, rot_left]; exact HRw.out)
       clear q2
       go_wp2
       exact ⟨HX.out, HGw.out⟩
     ·have z2 : decide ((I : Int) < (m : Int)) = false := decide_eq_false (by omega)
      have z3 : decide (I < m) = false := decide_eq_false q1
      have HX : Hid (RowB wr g n (rot I m e f)) := hid (by rw [show I = m by omega, rot_right _ _ _ (by omega)]; exact HRw.out)
      clear q1
      go_wp2
      exact ⟨HX.out, HGw.out⟩
    ·rintro A' w1 ⟨⟨hrow1, hgr1⟩, hA, hl⟩
     generalize (A'.tmps.toList.drop 178).take 14 = vs at hA hl
     obtain ⟨b0, b1, b2, b3, b4, b5, b6, b7, b8, b9, b10, b11, b12, b13, rfl⟩ := list14 hl
     subst hA
     clear hl HRw HGw
     apply hK3
     simp only [List.take_succ_cons, List.take_zero, List.drop_succ_cons, List.drop_zero, List.cons_append, List.nil_append]
     clear hK3
     have HR1 := hid hrow1
     have HG1 := hid hgr1
     have HM1 : Hid (Mix a b f (rot I m e f)) := hid ((mix_rot f hIm hme).mono (by have := HH.out.as; omega) heb)
     obtain ⟨h, hh⟩ : ∃ h, h = rot I m e f := ⟨_, rfl⟩
     rw [← hh] at HR1 HM1 HH
     have haI : a ≤ I := HH.out.as
     clear hrow1 hgr1 hh
     apply wp_seq_k
     intro K4 hK4
     refine wp_cut (fun A A' w' => (∃ g1, RowB w' g n g1 ∧ Mix a d h g1 ∧ Rise key a d g1 ∧ w.grownBy w' (some g)) ∧ A' = ⟨(A.tmps.toList.take 192 ++ (A'.tmps.toList.drop 192).take 14 ++ A.tmps.toList.drop 206).toArray, A.defers⟩ ∧ ((A'.tmps.toList.drop 192).take 14).length = 14) ?_ ?_
     ·by_cases q1 : a < I
      ·by_cases q2 : I < d
       ·have z1 : (a : Int) < (I : Int) := by omega
        have z2 : (I : Int) < (d : Int) := by omega
        have HJ := hid (IH.out a I d h w1 (by have := HS.out; omega) HR1.out (fun W hW => HC.out W (grown_transB HG1.out hW)) (HM1.out.lt hb HN.out) q1 q2 hdn HH.out.r1 (by have := HH.out.r2; rwa [← HD.out] at this))
        unfold cmpF at HJ
        go_wp2_with (go_at_call 113; refine HJ.out.mono ?_; rintro e' w' ⟨rfl, g1, hrow, hmix, hrise, hgr⟩)
        exact ⟨g1, hrow, hmix, hrise, grown_transB HG1.out hgr⟩
       ·have z1 : (a : Int) < (I : Int) := by omega
        have z2 : decide ((I : Int) < (d : Int)) = false := decide_eq_false (by omega)
        have z3 : decide (I < d) = false := decide_eq_false q2
        have HX : Hid (Rise key a d h) := hid (by have := HH.out.r1; rwa [show I = d by omega] at this)
        clear q2
        go_wp2
        exact ⟨h, HR1.out, Mix.refl _ _ _, HX.out, HG1.out⟩
      ·have z2 : decide ((a : Int) < (I : Int)) = false := decide_eq_false (by omega)
       have z3 : decide (a < I) = false := decide_eq_false q1
       have HX : Hid (Rise key a d h) := hid (by have := HH.out.r2; rwa [show I = a by omega, ← HD.out] at this)
       clear q1
       go_wp2
       exact ⟨h, HR1.out, Mix.refl _ _ _, HX.out, HG1.out⟩
     ·rintro A' w2 ⟨⟨g1, hrow2, hmix2, hrise2, hgr2⟩, hA, hl⟩
      generalize (A'.tmps.toList.drop 192).take 14 = vs at hA hl
      obtain ⟨d0, d1, d2, d3, d4, d5, d6, d7, d8, d9, d10, d11, d12, d13, rfl⟩ := list14 hl
      subst hA
      clear hl HR1 HG1
      apply hK4
      simp only [List.take_succ_cons, List.take_zero, List.drop_succ_cons, List.drop_zero, List.cons_append, List.nil_append]
      clear hK4
      have HR2 := hid hrow2
      have HG2 := hid hgr2
      have HM2 := hid hmix2
      have HT2 := hid hrise2
      have HM3 : Hid (Mix a b f g1) := hid (HM1.out.trans (hmix2.mono (Nat.le_refl _) (by omega)))
      have HLE : Hid (∀ x y, a ≤ x → x < d → d ≤ y → y < b → key (h x) ≤ key (h y)) := hid (by have := HH.out.le; rwa [← HD.out] at this)
      have HR3 : Hid (Rise key d e g1) := hid (by
       have := HH.out.r3
       rw [← HD.out, ← HE.out] at this
       exact this.of_mix hmix2 (.inr (Nat.le_refl _)))
      have HR4 : Hid (Rise key e b g1) := hid (by
       have := HH.out.r4
       rw [← HD.out, ← HE.out] at this
       exact this.of_mix hmix2 (.inr hde))
      clear hrow2 hgr2 hmix2 hrise2
      by_cases q1 : d < e
      ·by_cases q2 : e < b
       ·have z1 : (d : Int) < (e : Int) := by omega
        have z2 : (e : Int) < (b : Int) := by omega
        have HJ := hid (IH.out d e b g1 w2 (by have := HS.out; have := HD.out; omega) HR2.out (fun W hW => HC.out W (grown_transB HG2.out hW)) (HM3.out.lt hb HN.out) q1 q2 hb HR3.out HR4.out)
        unfold cmpF at HJ
        go_wp2_with (go_at_call 113; refine HJ.out.mono ?_; rintro e' w' ⟨rfl, g2, hrow, hmix, hrise, hgr⟩)
        go_end0
        exact ⟨rfl, g2, hrow, HM3.out.trans (hmix.mono hda (Nat.le_refl _)), rise_halves HLE.out HM2.out HT2.out hmix hrise, grown_transB HG2.out hgr⟩
       ·have z1 : (d : Int) < (e : Int) := by omega
        have z2 : decide ((e : Int) < (b : Int)) = false := decide_eq_false (by omega)
        have z3 : decide (e < b) = false := decide_eq_false q2
        have HX : Hid (Rise key d b g1) := hid (by have := HR3.out; rwa [show e = b by omega] at this)
        clear q2
        go_wp2
        go_end0
        exact ⟨rfl, g1, HR2.out, HM3.out, rise_halves HLE.out HM2.out HT2.out (Mix.refl _ _ _) HX.out, HG2.out⟩
      ·have z2 : decide ((d : Int) < (e : Int)) = false := decide_eq_false (by omega)
       have z3 : decide (d < e) = false := decide_eq_false q1
       have HX : Hid (Rise key d b g1) := hid (by have := HR4.out; rwa [show e = d by omega] at this)
       clear q1
       go_wp2
       go_end0
       exact ⟨rfl, g1, HR2.out, HM3.out, rise_halves HLE.out HM2.out HT2.out (Mix.refl _ _ _) HX.out, HG2.out⟩
theorem sym_any (g n c gb N : Nat) (key : Nat → Nat) (hn : n ≤ c) (hc : c ≤ maxLen) (hbig : n < 4611686018427387904) : ∀ s, SymAt g n c gb N key s
 | 0 => fun a m b f w h _ _ _ h1 h2 => absurd h (by omega)
 | s + 1 => fun a m b f w h hr hcmp hf ham hmb hb h1 h2 => by
  by_cases e1 : m = a + 1
  ·exact sym_one g n c a m b gb N key f w hr hcmp hf e1 hmb hb hn hc hbig h2
  ·by_cases e2 : b = m + 1
   ·exact sym_two g n c a m b gb N key f w hr hcmp hf ham e1 e2 hb hn hc hbig h1
   ·exact sym_three g n c a m b gb N s key f w (sym_any g n c gb N key hn hc hbig s) h hr hcmp hf ham hmb e1 e2 hb hn hc hbig h1 h2
def Sorted (g n : Nat) (key f : Nat → Nat) (w : World) (e : Ending) (w' : World) : Prop :=
 e = .returned (.tuple #[]) ∧ ∃ F, RowB w' g n F ∧ Mix 0 n f F ∧ Rise key 0 n F ∧ w.grownBy w' (some g)
def Upto (key : Nat → Nat) (z q : Nat) (f : Nat → Nat) : Prop := ∀ k, k < q → Rise key (k * z) ((k + 1) * z) f
def From (key : Nat → Nat) (z n q : Nat) (f : Nat → Nat) : Prop := ∀ k, q ≤ k → Rise key (k * z) (min ((k + 1) * z) n) f
theorem Upto.succ {key : Nat → Nat} {z q : Nat} {f g : Nat → Nat} (h : Upto key z q f) (hm : Mix (q * z) ((q + 1) * z) f g) (hr : Rise key (q * z) ((q + 1) * z) g) : Upto key z (q + 1) g := fun k hk => by
 by_cases e : k = q
 ·subst e; exact hr
 ·exact (h k (by omega)).of_mix hm (.inl (Nat.mul_le_mul_right z (by omega)))
theorem runs_of {key : Nat → Nat} {z n q : Nat} {f g : Nat → Nat} (h : Upto key z q f) (hm : Mix (q * z) n f g) (hr : Rise key (q * z) n g) (hq : n < (q + 1) * z) : Runs key z n g := fun k => by
 rcases Nat.lt_trichotomy k q with e | e | e
 ·have h1 : (k + 1) * z ≤ q * z := Nat.mul_le_mul_right z (by omega)
  have h2 := (h k e).of_mix hm (.inl h1)
  intro x y hx hxy hy
  exact h2 x y hx hxy (by omega)
 ·subst e
  intro x y hx hxy hy
  exact hr x y hx hxy (by omega)
 ·have h1 : (q + 1) * z ≤ k * z := Nat.mul_le_mul_right z (by omega)
  intro x y hx hxy hy
  omega
theorem From.of_mix {key : Nat → Nat} {z n q p : Nat} {f g : Nat → Nat} {a b : Nat} (h : From key z n q f) (hm : Mix a b f g) (hqp : q ≤ p) (hb : b ≤ p * z) : From key z n p g := fun k hk =>
 (h k (by omega)).of_mix hm (.inr (Nat.le_trans hb (Nat.mul_le_mul_right z hk)))
theorem dbl (q z : Nat) : 2 * q * z = q * (2 * z) ∧ (2 * q + 1) * z = q * (2 * z) + z ∧ (2 * q + 2) * z = (q + 1) * (2 * z) ∧ (q + 1) * (2 * z) = q * (2 * z) + 2 * z := by
 have e : 2 * q * z = q * (2 * z) := by rw [Nat.mul_comm 2 q, Nat.mul_assoc]
 refine ⟨e, ?_, ?_, ?_⟩
 ·rw [Nat.add_mul, e, Nat.one_mul]
 ·rw [Nat.add_mul, e, Nat.add_mul, Nat.one_mul]
 ·rw [Nat.add_mul, Nat.one_mul]
theorem From.two {key : Nat → Nat} {z n q : Nat} {f : Nat → Nat} (h : From key z n (2 * q) f) : Rise key (q * (2 * z)) (min (q * (2 * z) + z) n) f ∧ Rise key (q * (2 * z) + z) (min (q * (2 * z) + 2 * z) n) f := by
 obtain ⟨e1, e2, e3, e4⟩ := dbl q z
 have h1 := h (2 * q) (Nat.le_refl _)
 have h2 := h (2 * q + 1) (by omega)
 rw [show 2 * q + 1 + 1 = 2 * q + 2 by omega, e3, e4, e2] at h2
 rw [e1, e2] at h1
 exact ⟨h1, h2⟩
set_option maxHeartbeats 4000000 in
set_option maxRecDepth 100000 in
theorem stable_any (g n c gb N : Nat) (key f : Nat → Nat) (w : World) (hr : RowB w g n f) (hcmp : ∀ W, w.grownBy W (some g) → CmpAt gb N key W) (hf : ∀ x, x < n → f x < N) (hn : n ≤ c) (hc : c ≤ maxLen) (hbig : n < 4611686018427387904) :
  Calls Tryz.prog 64 #[.slice (some ⟨g, 0, none⟩) n c, .int .i64 n, cmpF gb] w (Sorted g n key f w) := by
 have hcm := hid hc
 have HR := hid hr
 have HC := hid hcmp
 have HN := hid hf
 have HI := hid (fun a b F W h1 h2 h3 h4 h5 => insertion_any g n c a b gb N key F W h1 h2 h3 h4 h5 hn hc hbig)
 have HJ := hid (fun s => sym_any g n c gb N key hn hc hbig s)
 unfold maxLen at hc
 clear hr hcmp hf
 unfold cmpF at HI ⊢
 go_enter Tryz.func64, Tryz.ntmps64
 go_wp2
 go_loopw [7, 8] (fun a b wr => ∃ (q A B : Nat) (F : Nat → Nat), a = .int .i64 A ∧ b = .int .i64 B ∧ B = A + 20 ∧ A ≤ n ∧ Hid (A = q * 20) ∧ RowB wr g n F ∧ Hid (Mix 0 n f F) ∧ Hid (Upto key 20 q F) ∧ w.grownBy wr (some g)) (fun a _ _ => n - (intOf a).toNat)
 case atStart => exact ⟨0, 0, 20, f, rfl, rfl, rfl, Nat.zero_le _, hid rfl, HR.out, hid (Mix.refl _ _ _), hid fun k hk => absurd hk (by omega), grown_reflB _ _⟩
 case round =>
  obtain ⟨q, A, B, F, rfl, rfl, hAB, hAn, HA, hrow, HM, HU, hgr⟩ := hrel
  have HW := hid hrow
  have HG := hid hgr
  have HAB := hid hAB
  clear HR hrow hgr
  by_cases hlt : B ≤ n
  ·have K := hid (HI.out A B F wr HW.out (fun W hW => HC.out W (grown_transB HG.out hW)) (HM.out.lt (Nat.le_refl _) HN.out) (by omega) hlt)
   have s1 : IntKind.i64.wrap ((B : Int) + 20) = (B : Int) + 20 := by rw [IntKind.wrap_i64]; omega
   clear hAB
   go_wp2_with (go_at_call 112; refine K.out.mono ?_; rintro e' w' ⟨rfl, g1, hrow, hmix, hrise, hgr⟩)
   go_roundw
   case rel =>
    have e := HA.out
    have hAB := HAB.out
    refine ⟨q + 1, B, B + 20, g1, rfl, by go_num, rfl, hlt, hid (by omega), hrow, hid (HM.out.trans (hmix.mono (Nat.zero_le _) hlt)), hid (HU.out.succ ?_ ?_), grown_transB HG.out hgr⟩
    ·rw [show (q + 1) * 20 = B by omega, ← e]; exact hmix
    ·rw [show (q + 1) * 20 = B by omega, ← e]; exact hrise
   case measure => have hAB := HAB.out; simp [intOf]; omega
  ·have K := hid (HI.out A n F wr HW.out (fun W hW => HC.out W (grown_transB HG.out hW)) (HM.out.lt (Nat.le_refl _) HN.out) hAn (Nat.le_refl _))
   have hd : decide ((B : Int) ≤ (n : Int)) = false := decide_eq_false (by omega)
   have hd' : decide (B ≤ n) = false := decide_eq_false hlt
   have HB := hid hlt
   clear hlt hAB
   go_wp2_with (go_at_call 112; refine K.out.mono ?_; rintro e' w' ⟨rfl, g1, hrow, hmix, hrise, hgr⟩)
   have HRun : Hid (Runs key 20 n g1) := by
    have e := HA.out
    have h1 := HB.out
    have hAB := HAB.out
    rw [e] at hmix hrise
    exact hid (runs_of HU.out hmix hrise (by omega))
   have HM1 : Hid (Mix 0 n f g1) := hid (HM.out.trans (hmix.mono (Nat.zero_le _) (Nat.le_refl _)))
   have HW1 := hid hrow
   have HG1 := hid (grown_transB HG.out hgr)
   clear HM HU HW HG HA HB HAB K HI hd hd' hrow hmix hrise hgr
   go_loopw [6] (fun z wr => ∃ (Z : Nat) (F : Nat → Nat), z = .int .i64 Z ∧ 0 < Z ∧ RowB wr g n F ∧ Hid (Mix 0 n f F) ∧ Hid (Runs key Z n F) ∧ w.grownBy wr (some g)) (fun z _ => n - (intOf z).toNat)
   case atStart => exact ⟨20, g1, rfl, by omega, HW1.out, HM1, HRun, HG1.out⟩
   case round =>
    clear HM1 HRun HW1 HG1
    obtain ⟨Z, F0, rfl, hZ, hrow, HM, HRun, hgr⟩ := hrel
    have HW := hid hrow
    have HG := hid hgr
    clear hrow hgr
    by_cases hzn : Z < n
    ·have s1 : IntKind.i64.wrap (2 * (Z : Int)) = 2 * (Z : Int) := by rw [IntKind.wrap_i64]; omega
     go_wp2
     go_loopw [7, 8] (fun a b wr2 => ∃ (q A B : Nat) (F : Nat → Nat), a = .int .i64 A ∧ b = .int .i64 B ∧ B = A + 2 * Z ∧ A ≤ n ∧ Hid (A = q * (2 * Z)) ∧ RowB wr2 g n F ∧ Hid (Mix 0 n f F) ∧ Hid (Upto key (2 * Z) q F) ∧ Hid (From key Z n (2 * q) F) ∧ w.grownBy wr2 (some g)) (fun a _ _ => n - (intOf a).toNat)
     case atStart => exact ⟨0, 0, 2 * Z, F0, rfl, by go_num, by omega, Nat.zero_le _, hid (by omega), HW.out, HM, hid fun k hk => absurd hk (by omega), hid fun k _ => HRun.out k, HG.out⟩
     case round =>
      clear HM HRun HW HG
      obtain ⟨q, A, B, F, rfl, rfl, hAB, hAn, HA, hrow, HM, HU, HF, hgr⟩ := hrel
      have HW := hid hrow
      have HG := hid hgr
      have HB := hid hAB
      have h2 := HF.out.two
      rw [← HA.out] at h2
      clear hrow hgr
      obtain ⟨T, hT⟩ : ∃ T, T = A + Z := ⟨_, rfl⟩
      have s2 : IntKind.i64.wrap ((A : Int) + (Z : Int)) = (T : Int) := by rw [IntKind.wrap_i64]; omega
      by_cases hlt : B ≤ n
      ·have K := hid (HJ.out (B - A) A T B F wr (Nat.le_refl _) HW.out (fun W hW => HC.out W (grown_transB HG.out hW)) (HM.out.lt (Nat.le_refl _) HN.out) (by omega) (by omega) hlt
        (by have := h2.1; rwa [Nat.min_eq_left (by omega), ← hT] at this) (by have := h2.2; rwa [Nat.min_eq_left (by omega), ← hT, ← hAB] at this))
       unfold cmpF at K
       have s3 : IntKind.i64.wrap ((B : Int) + 2 * (Z : Int)) = (B : Int) + 2 * (Z : Int) := by rw [IntKind.wrap_i64]; omega
       clear h2 hT hAB
       go_wp2_with (go_at_call 113; refine K.out.mono ?_; rintro e' w' ⟨rfl, g1, hrow, hmix, hrise, hgr⟩)
       go_roundw
       case rel =>
        have e := HA.out
        have hAB := HB.out
        obtain ⟨d1, d2, d3, d4⟩ := dbl q Z
        refine ⟨q + 1, B, B + 2 * Z, g1, rfl, by go_num, rfl, hlt, hid (by omega), hrow, hid (HM.out.trans (hmix.mono (Nat.zero_le _) hlt)), hid (HU.out.succ ?_ ?_), hid (HF.out.of_mix hmix (by omega) ?_), grown_transB HG.out hgr⟩
        ·rw [show (q + 1) * (2 * Z) = B by omega, ← e]; exact hmix
        ·rw [show (q + 1) * (2 * Z) = B by omega, ← e]; exact hrise
        ·rw [show 2 * (q + 1) = 2 * q + 2 by omega, d3]; omega
       case measure => have hAB := HB.out; simp [intOf]; omega
      ·have hd : decide ((B : Int) ≤ (n : Int)) = false := decide_eq_false (by omega)
       have hd' : decide (B ≤ n) = false := decide_eq_false hlt
       have HL := hid hlt
       have s3 : IntKind.i64.wrap ((Z : Int) * 2) = (Z : Int) * 2 := by rw [IntKind.wrap_i64]; omega
       by_cases hmn : T < n
       ·have K := hid (HJ.out (n - A) A T n F wr (Nat.le_refl _) HW.out (fun W hW => HC.out W (grown_transB HG.out hW)) (HM.out.lt (Nat.le_refl _) HN.out) (by omega) hmn (Nat.le_refl _)
         (by have := h2.1; rwa [Nat.min_eq_left (by omega), ← hT] at this) (by have := h2.2; rwa [Nat.min_eq_right (by omega), ← hT] at this))
        unfold cmpF at K
        clear h2 hT hAB hlt
        go_wp2_with (go_at_call 113; refine K.out.mono ?_; rintro e' w' ⟨rfl, g1, hrow, hmix, hrise, hgr⟩)
        go_roundw
        case rel =>
         have e := HA.out
         have hAB := HB.out
         have h1 := HL.out
         obtain ⟨d1, d2, d3, d4⟩ := dbl q Z
         rw [e] at hmix hrise
         refine ⟨2 * Z, g1, by go_num, by omega, hrow, hid (HM.out.trans (hmix.mono (Nat.zero_le _) (Nat.le_refl _))), hid (runs_of HU.out hmix hrise (by omega)), grown_transB HG.out hgr⟩
        case measure => simp [intOf]; omega
       ·have hr1 : Hid (Rise key A n F) := hid (by have := h2.1; rwa [Nat.min_eq_right (by omega)] at this)
        have z1 : decide ((T : Int) < (n : Int)) = false := decide_eq_false (by omega)
        have z2 : decide (T < n) = false := decide_eq_false hmn
        clear h2 hT hAB hlt hmn
        go_wp2
        go_roundw
        case rel =>
         have e := HA.out
         have hAB := HB.out
         have h1 := HL.out
         obtain ⟨d1, d2, d3, d4⟩ := dbl q Z
         rw [e] at hr1
         exact ⟨2 * Z, F, by go_num, by omega, HW.out, HM, hid (runs_of HU.out (Mix.refl _ _ _) hr1.out (by omega)), HG.out⟩
        case measure => simp [intOf]; omega
    ·have hd : decide ((Z : Int) < (n : Int)) = false := decide_eq_false (by omega)
     have hd' : decide (Z < n) = false := decide_eq_false hzn
     have HX : Hid (Rise key 0 n F0) := hid (runs_all HRun.out (by omega))
     clear hzn
     go_wp2
     go_end0
     exact ⟨rfl, F0, HW.out, HM.out, HX.out, HG.out⟩
theorem sortStable_any (g n c gb N : Nat) (key f : Nat → Nat) (w : World) (hr : RowB w g n f) (hcmp : ∀ W, w.grownBy W (some g) → CmpAt gb N key W) (hf : ∀ x, x < n → f x < N) (hn : n ≤ c) (hc : c ≤ maxLen) (hbig : n < 4611686018427387904) :
  Calls Tryz.prog 21 #[.slice (some ⟨g, 0, none⟩) n c, cmpF gb] w (Sorted g n key f w) := by
 have K := hid (stable_any g n c gb N key f w hr hcmp hf hn hc hbig)
 clear hr hcmp hf
 unfold maxLen at hc
 unfold cmpF at K ⊢
 go_enter Tryz.func21, Tryz.ntmps21
 go_wp2_with (go_at_call 64; refine K.out.mono ?_; rintro e' w' ⟨rfl, hh⟩)
 go_end0
 exact ⟨rfl, hh⟩
end Go.Proofs.YtfbimboemahhhaaGreatDoor
