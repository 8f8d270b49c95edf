/-
  The walk of bezantlaw01.WireTurned: at any bytes and numbers it returns true, and nothing that was there has changed.
-/
import Derived.Test.YtoaifjkjgmngiaaUp1
namespace Go.Proofs.Ytoaifjkjgmngiaa
open Go.RowKit

theorem gotB_app (l C : List UInt8) (N : Nat) (hC : C.length = N) (h : wid N = true) : gotB (l ++ C) l.length N = true := by
  simp only [gotB, h, Bool.true_and, wthn, List.length_append, hC]
  exact decide_eq_true (by omega)
theorem gotV_app (l C : List UInt8) (N : Nat) (big : Bool) (hC : C.length = N) (h : wid N = true) : gotV (l ++ C) l.length N big = getB C big := by
  unfold gotV
  rw [if_pos (gotB_app l C N hC h), Int.toNat_natCast, Int.toNat_natCast, List.drop_left, ← hC, List.take_length]
theorem got_fits (v : Int) (N : Nat) (big : Bool) (h0 : 0 ≤ v) (h : wid N = true) : (((getB (putB v.toNat N big) big : Nat) : Int) == v) = fits v N := by
  obtain ⟨V, rfl⟩ : ∃ V : Nat, v = V := ⟨v.toNat, by omega⟩
  rw [Int.toNat_natCast, getB_putB, fits, h, Bool.true_and, Int.toNat_natCast, Bool.eq_iff_iff, beq_iff_eq, decide_eq_true_iff]
  have e : ((256 : Int) ^ N) = ((256 ^ N : Nat) : Int) := by simp
  have hp : 0 < 256 ^ N := Nat.pow_pos (by omega)
  rw [e]
  constructor
  · intro h1
    have h2 := Nat.mod_lt V hp
    omega
  · intro h1
    rw [Nat.mod_eq_of_lt (by omega)]

theorem pick4 (i : Nat) (h : i < [Value.int .i64 1, Value.int .i64 2, Value.int .i64 4, Value.int .i64 8].length) :
    ∃ N : Nat, wid N = true ∧ [Value.int .i64 1, Value.int .i64 2, Value.int .i64 4, Value.int .i64 8][i] = .int .i64 (N : Int) := by
  match i, h with
  | 0, _ => exact ⟨1, by decide, rfl⟩
  | 1, _ => exact ⟨2, by decide, rfl⟩
  | 2, _ => exact ⟨4, by decide, rfl⟩
  | 3, _ => exact ⟨8, by decide, rfl⟩

theorem Grow.trans' {w a b : World} (h : Grow w a) (k : Below w.heap.size a b) : Below w.heap.size w b := Below.trans h k

set_option maxHeartbeats 800000 in
theorem turned_core (A : Option Addr) (len c : Nat) (l : List UInt8) (v k : Int) (big : Bool) (p : Int) (w : World) (h : RB w w.heap.size A len c l)
    (hp : 0 ≤ p) (hp1 : p ≤ 18446744073709551615) (hv : 0 ≤ v) (hv1 : v ≤ 18446744073709551615) :
    Calls Try.prog 4 #[.slice A len c, .int .u64 v, .int .i64 k, .bool big, .int .u64 p] w fun e w' => e = .returned (.bool true) ∧ Below w.heap.size w w' := by
  have HR := Lib.hid h
  have hc := h.cap
  have hm := h.max
  unfold maxLen at hm
  clear h
  by_cases hbig : 1000 < len
  · go_enter Try.func4, Try.ntmps4
    go_wp2_with (go_at_call 5; refine (up1_any _).mono ?_; rintro e w1 ⟨rfl, hb1⟩; have HB := Lib.hid hb1; clear hb1)
    go_ret
    exact ⟨rfl, HB.out⟩
  · have hd : decide (1000 < (len : Int)) = false := decide_eq_false (by omega)
    go_enter Try.func4, Try.ntmps4
    go_wp2_with fail
    refine (up1_any _).mono ?_
    rintro e w1 ⟨rfl, hb1⟩
    have HB1 := Lib.hid hb1
    have HR1 := Lib.hid (HR.out.belowAt hb1 (Nat.le_refl _))
    clear hb1
    have k1 : -4 < k.tmod 4 := Int.lt_tmod_of_pos k (by omega)
    have k2 : k.tmod 4 < 4 := Int.tmod_lt_of_pos k (by omega)
    obtain ⟨N, hN, hX⟩ := pick4 (k.tmod 4 % 4).toNat (by simp; omega)
    have hpick : [Value.int .i64 1, Value.int .i64 2, Value.int .i64 4, Value.int .i64 8][(k.tmod 4 % 4).toNat]? = some (.int .i64 (N : Int)) := by
      rw [List.getElem?_eq_getElem (by simp; omega), hX]
    have hn8 : N ≤ 8 := by have := wid_cases hN; omega
    have HN := Lib.hid hN
    clear hX hN
    go_wp2_with fail
    clear hpick
    refine (put_wide v N big _ HN.out hv).mono ?_
    rintro e w2 ⟨A1, c1, rfl, ho1, hb1⟩
    have HG2 : Hid (Grow w w2) := ((show Grow w w1 from HB1.out).trans (Grow.of_alloc _ _)).trans hb1
    have hO1 := ho1.mono (Nat.zero_le _)
    clear ho1 hb1
    go_wp2_with fail
    refine (put_wide v N (!big) _ HN.out hv).mono ?_
    rintro e w3 ⟨A2, c2, rfl, ho2, hb2⟩
    have HG3 : Hid (Grow w w3) := HG2.out.trans hb2
    have HO1 := Lib.hid (hO1.keep hb2)
    have HO2 := Lib.hid (ho2.mono (Nat.zero_le _))
    have HR3 : Hid (RB w3 w.heap.size A len c l) := HR.out.belowAt HG3.out (Nat.le_refl _)
    rw [putB_turn] at HO2
    have HC := Lib.hid (length_putB v.toNat N big)
    generalize hCC : putB v.toNat N big = C at HO1 HO2 HC
    have HCC := Lib.hid hCC
    clear ho2 hb2 hO1 HG2 HR1 HB1 hCC k1 k2
    have hne1 : ((N : Int) != (N : Int)) = false := by simp
    go_wp2_with fail
    clear hne1
    go_loopw [15] (fun i wr => ∃ j : Nat, j ≤ N ∧ i = .int .i64 j ∧ ∃ m, wr = w3.drewN m) (fun i _ => N - (intOf i).toNat)
    case atStart => exact ⟨0, Nat.zero_le _, rfl, 0, rfl⟩
    case round =>
      obtain ⟨j, hj, rfl, m, hwr⟩ := hrel
      by_cases hlt : j < N
      · have hO1' := HO1.out.rb
        have hO2' := HO2.out.rb
        obtain ⟨b1, o1, rfl, _, hc1⟩ := hO1'.pos (by omega)
        obtain ⟨b2, o2, rfl, _, hc2⟩ := hO2'.pos (by omega)
        have hjC : j < C.length := by rw [HC.out]; exact hlt
        have q1 := hc1 j hjC
        have q2 := hc2 (N - 1 - j) (by rw [List.length_reverse, HC.out]; omega)
        have e1 : C.reverse[N - 1 - j]'(by rw [List.length_reverse, HC.out]; omega) = C[j] := by
          rw [List.getElem_reverse]; congr 1; rw [HC.out]; omega
        rw [e1] at q2
        generalize C[j] = u at q1 q2
        have r1 : wr.cell? ⟨b1, o1 + j, none⟩ = some (.int .u8 (u.toNat : Int)) := by rw [hwr]; exact q1
        have r2 : wr.cell? ⟨b2, o2 + (N - 1 - j), none⟩ = some (.int .u8 (u.toNat : Int)) := by rw [hwr]; exact q2
        have HW := Lib.hid hwr
        clear hO1' hO2' hc1 hc2 q1 q2 e1 hjC hwr
        have z1 : IntKind.i64.wrap ((N : Int) - 1) = (N : Int) - 1 := IntWalk.i64_in _ (by omega)
        have z2 : IntKind.i64.wrap ((N : Int) - 1 - (j : Int)) = (N : Int) - 1 - (j : Int) := IntWalk.i64_in _ (by omega)
        have z3 : (0 : Int) ≤ (N : Int) - 1 - (j : Int) := by omega
        have z4 : ((N : Int) - 1 - (j : Int)).toNat = N - 1 - j := by omega
        have z5 : (N : Int) - 1 - (j : Int) < (N : Int) := by omega
        have z6 : (0 : Int) ≤ (j : Int) := by omega
        have z7 : (j : Int) < (N : Int) := by omega
        go_wp2_with fail
        go_quiet (fail)
        clear z1 z2 z3 z4 z5 z6 z7 r1 r2
        go_wp2
        go_roundw
        case rel => exact ⟨j + 1, by omega, by go_num, m + nq, by rw [HW.out, World.drewN_drewN]⟩
        case measure => simp [intOf]; omega
      · have HG4 : Hid (Grow w wr) := by rw [hwr]; exact HG3.out.trans (Grow.of_drewN _ _)
        have HR4 : Hid (RB wr w.heap.size A len c l) := by rw [hwr]; exact HR3.out.drewN _
        have HO4 : Hid (OB wr 0 5 A1 N c1 C) := by rw [hwr]; exact HO1.out
        clear hwr HG3 HR3 HO1 HO2 HR
        have HR5 : Hid (RB (wr.alloc (.cells #[] 5)) w.heap.size A len c l) := HR4.out.belowAt (Grow.of_alloc wr _) HG4.out.size
        have HO5 : Hid (OB (wr.alloc (.cells #[] 5)) 0 5 A1 N c1 C) := HO4.out.alloc _
        go_wp2_with (first
          | (at_builtin; refine wpList_appendB _ rfl (.tmp 69) (.tmp 70) 22 rfl wr.heap.size 5 Try.underlying22 (by kernel_rfl) _ 0 0 [] rfl (OB.lit wr wr.heap.size 5 [] (Nat.zero_le _) (Nat.le_refl _)) w.heap.size A len c l rfl HR5.out (by omega) (by simp) ?_; intro A3 c3 w5 ho5 hb5; have HO6 := Lib.hid ho5; have HB6 := Lib.hid hb5; clear ho5 hb5; rw [Nat.zero_add])
          | (at_builtin; refine wpList_appendB _ rfl (.tmp 71) (.tmp 72) 22 rfl wr.heap.size 5 Try.underlying22 (by kernel_rfl) A3 len c3 ([] ++ l) rfl (by have := HO6.out; rwa [Nat.zero_add] at this) wr.heap.size A1 N c1 C rfl ((HO4.out.rb.belowAt (Grow.of_alloc wr _) (Nat.le_refl _)).belowAt HB6.out (Nat.le_refl _)) (by omega) (by have := HB6.out.size; simp at this; omega) ?_; intro A4 c4 w6 ho6 hb6; have HO7 := Lib.hid ho6; have HB7 := Lib.hid hb6; clear ho6 hb6))
        have HG6 : Hid (Grow w w6) := HG4.out.trans (show Below wr.heap.size wr w6 from ((Grow.of_alloc wr _).trans' HB6.out).trans HB7.out)
        have HR6 : Hid (RB w6 w.heap.size A len c l) := HR4.out.belowAt (show Below wr.heap.size wr w6 from ((Grow.of_alloc wr _).trans' HB6.out).trans HB7.out) HG4.out.size
        have hle := HR6.out.len
        have HV := Lib.hid (gotV_app l C N big HC.out HN.out)
        have HBB := Lib.hid (gotB_app l C N HC.out HN.out)
        have HFX := Lib.hid (got_fits v N big hv HN.out)
        rw [HCC.out] at HFX
        refine (get_any _ _ _ ([] ++ l ++ C) _ _ _ _ _ HO7.out.rb (by omega)).mono ?_
        rintro e w7 ⟨rfl, m2, hw7⟩
        have HG7 : Hid (Grow w w7) := by rw [hw7]; exact HG6.out.trans (Grow.of_drewN _ _)
        have HR7 : Hid (RB w7 w.heap.size A len c l) := by rw [hw7]; exact HR6.out.drewN _
        rw [List.nil_append, hle, HV.out, HBB.out, ← hle]
        have HLE := Lib.hid hle
        clear hw7 hle HG4 HG6 HR4 HR5 HR6 HO4 HO5 HO6 HO7 HB6 HB7 HV HBB
        generalize getB C big = X at HFX
        have hX := HFX.out
        go_wp2_with fail
        refine (fits_any v N _ hv hv1).mono ?_
        rintro e w8 ⟨rfl, rfl⟩
        go_wp2_with fail
        clear hX HFX
        refine (get_any _ _ _ l _ p N big _ HR7.out hp).mono ?_
        rintro e w8 ⟨rfl, m3, hw8⟩
        have HG8 : Hid (Grow w w8) := by rw [hw8]; exact HG7.out.trans (Grow.of_drewN _ _)
        have HR8 : Hid (RB w8 w.heap.size A len c l) := by rw [hw8]; exact HR7.out.drewN _
        have HIS : Hid (gotB l p N = wthn p N len) := by
          have h1 : gotB l p N = wthn p N l.length := by simp [gotB, HN.out]
          rw [h1, ← HLE.out]; exact Lib.hid rfl
        clear hw8 HG7 HR7
        go_wp2_with fail
        refine (within_any p N len _ hp (by omega) (by omega)).mono ?_
        rintro e w9 ⟨rfl, rfl⟩
        rw [HIS.out]
        cases hb : wthn p N len
        · have e0 : gotV l p N big = 0 := by simp [gotV, HIS.out, hb]
          rw [e0]
          clear hb e0
          go_wp2
          go_ret
          exact ⟨rfl, HG8.out⟩
        · have hpn := of_decide_eq_true hb
          obtain ⟨P, rfl⟩ : ∃ P : Nat, p = P := ⟨p.toNat, by omega⟩
          have hN1 : 1 ≤ N := by have := wid_cases HN.out; omega
          obtain ⟨b, off, hA, _, _⟩ := HR8.out.pos (by omega)
          subst hA
          have e0 : gotV l P N big = getB ((l.drop P).take N) big := by simp [gotV, HIS.out, hb]
          rw [e0]
          have hs1 := (HR8.out.sub (p := P) (m := N) (by omega) (by omega))
          have HY := Lib.hid (putB_getB ((l.drop P).take N) big)
          rw [← hs1.len] at HY
          have hlt9 : getB ((l.drop P).take N) big < 18446744073709551616 := by
            have h1 := getB_lt ((l.drop P).take N) big
            rw [← hs1.len] at h1
            exact Nat.lt_of_lt_of_le h1 (Nat.pow_le_pow_right (by omega) hn8 : 256 ^ N ≤ 256 ^ 8)
          generalize (l.drop P).take N = q at hs1 HY hlt9
          generalize getB q big = Y at HY hlt9
          have HS := Lib.hid hs1
          clear hb e0 hs1
          go_wp2_with fail
          refine wp_region_chain [(0, true), (1, true), (2, true), (3, true), (4, true), (7, true), (8, true), (9, true), (10, true), (11, true), (12, true), (13, true), (14, true), (15, true), (5, false), (6, true), (16, true), (17, true), (18, true)] (by kernel_rfl) (by kernel_rfl) (by kernel_rfl) ?_
          have HD : Hid (Grow w w8.drew) := HG8.out.trans (Grow.of_drew _)
          have hs2 := (HS.out.drew).conv HD.out.size
          generalize w8.drew = wd at HD hs2 ⊢
          have y1 : IntKind.i64.wrap (P : Int) = (P : Int) := IntWalk.i64_in _ (by omega)
          have y2 : IntKind.i64.wrap ((P : Int) + (N : Int)) = (P : Int) + (N : Int) := IntWalk.i64_in _ (by omega)
          have y3 : (0 : Int) ≤ (P : Int) := by omega
          have y4 : (P : Int) ≤ (P : Int) + (N : Int) := by omega
          have y6 : ¬ c = P := by omega
          have y7 : ((P : Int) + (N : Int)).toNat = P + N := by omega
          have y5 : (P : Int) + (N : Int) ≤ (c : Int) := by omega
          repeat (refine chain_take rfl (by rfl) ?_ (fun W hG => ?_) ?_; rotate_left; (go_simp; rfl); simp only [Act.put, List.setIfInBounds_toArray, List.set_cons_zero, List.set_cons_succ])
          clear y1 y2 y3 y4 y5 y6 y7 hs2
          refine chain_only rfl (by rfl) (fun K hK => ?_)
          go_simp
          refine (put_wide Y N big _ HN.out (by omega)).mono ?_
          rintro e wf ⟨A5, c5, rfl, ho5, hb5⟩
          refine hK _ _ hb5 ?_
          clear hK K
          rw [Int.toNat_natCast, HY.out] at ho5
          have hs3 := (OB.rb ho5).conv (Nat.le_refl _)
          have HF : Hid (Grow w wf) := HD.out.trans hb5
          clear ho5 hb5 HD
          repeat (refine chain_take rfl (by rfl) ?_ (fun W hG => ?_) ?_; rotate_left; (go_simp; rfl); simp only [Act.put, List.setIfInBounds_toArray, List.set_cons_zero, List.set_cons_succ])
          refine chain_done ?_
          go_wp2
          go_ret
          exact ⟨rfl, HF.out⟩
end Go.Proofs.Ytoaifjkjgmngiaa
