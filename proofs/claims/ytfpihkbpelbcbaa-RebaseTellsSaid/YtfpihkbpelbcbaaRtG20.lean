/-
  Several texts in one: The contract of the document's own Get (layer 1); The contracts of the document's own Numbers; A stop in the walk behind a part of the code; The contract of the document's own Dyns; The contract of the document's own Sum.
-/
import Derived.Test.YtfpihkbpelbcbaaRtG5
import Derived.Test.YtfpihkbpelbcbaaRtG4
import Derived.Test.YtfpihkbpelbcbaaRows
import Derived.Test.YtfpihkbpelbcbaaRtG2
import Derived.Test.YtfpihkbpelbcbaaRtG11
import Derived.Test.YtfpihkbpelbcbaaRtG10
namespace Go.Proofs.Ytfpihkbpelbcbaa
open Go.Lib (hid)
open Go.RowKit
def horn (r : List UInt8) (k : Nat) : Nat := num (r.take k).reverse
theorem horn_zero (r : List UInt8) : horn r 0 = 0 := by simp [horn, num]
theorem horn_succ (r : List UInt8) (k : Nat) (h : k < r.length) : horn r (k + 1) = 256 * horn r k + r[k].toNat := by
 unfold horn
 rw [take_snoc' r k h, List.reverse_append]
 simp [num]; omega
theorem horn_lt (r : List UInt8) (k : Nat) (h : k ≤ r.length) : horn r k < 256 ^ k := by
 have := num_lt (r.take k).reverse
 rw [List.length_reverse, List.length_take, Nat.min_eq_left h] at this
 exact this
theorem horn_le (r : List UInt8) (k : Nat) (h : k ≤ r.length) (h8 : k ≤ 8) : horn r k ≤ 18446744073709551615 := by
 have h1 := horn_lt r k h
 have h2 : (256 : Nat) ^ k ≤ 256 ^ 8 := Nat.pow_le_pow_right (by omega) h8
 have h3 : (256 : Nat) ^ 8 = 18446744073709551616 := by decide
 omega
set_option maxHeartbeats 400000 in
theorem refGet_yes (b off c : Nat) (l : List UInt8) (p n : Nat) (big : Bool) (w : World) (hw : wid n = true) (hp : p + n ≤ l.length) (hl : l.length ≤ c) (hc : c ≤ maxLen)
  (hcell : ∀ j (h : j < l.length), w.cell? ⟨b, off + j, none⟩ = some (.int .u8 (l[j].toNat : Int))) :
  Calls Try.prog 26 #[.slice (some ⟨b, off, none⟩) l.length c, .int .u64 p, .int .i64 n, .bool big] w fun e w' =>
   e = .returned (.tuple #[.int .u64 (getB ((l.drop p).take n) big : Nat), .bool true]) ∧ w = w' := by
 unfold maxLen at hc
 have hn8 : n ≤ 8 := by have := wid_cases hw; omega
 obtain ⟨q, hq⟩ : ∃ q, q = (l.drop p).take n := ⟨_, rfl⟩
 have hql : q.length = n := by rw [hq]; simp; omega
 have hqc : ∀ j (h : j < q.length), w.cell? ⟨b, off + (p + j), none⟩ = some (.int .u8 (q[j].toNat : Int)) := by
  intro j h
  rw [hcell (p + j) (by omega)]
  simp [hq]
 rw [← hq]
 obtain ⟨r, hr⟩ : ∃ r, r = ord (!big) q := ⟨_, rfl⟩
 have hrl : r.length = n := by rw [hr, length_ord, hql]
 have E := hid (show getB q big = horn r n by
  rw [horn, ← hrl, List.take_length, hr]; cases big <;> simp [getB, ord])
 have H := hid hw
 have HL := hid hrl
 cases big
 ·have HC : Hid (∀ k (h : k < r.length), w.cell? ⟨b, off + (p + n - 1 - k), none⟩ = some (.int .u8 (r[k].toNat : Int))) := by
   intro k h
   have e : p + n - 1 - k = p + (n - 1 - k) := by omega
   rw [e, hqc (n - 1 - k) (by omega)]
   congr 3
   subst hr
   simp [ord, hql]
  have hlen : decide (l.length < p) = false := decide_eq_false (by omega)
  clear hw hcell hqc hql hq hr hrl
  go_enter Try.func26, Try.ntmps26
  go_wp2_with (go_at_call 52; refine (wide_any _ _).mono ?_; rintro e w' ⟨rfl, rfl⟩; rw [H.out])
  clear hlen
  go_loop [12, 13] (fun v i => ∃ k : Nat, k ≤ n ∧ i = .int .i64 k ∧ v = .int .u64 (horn r k : Nat)) (fun _ i => n - (intOf i).toNat)
  case atStart => exact ⟨0, Nat.zero_le _, rfl, by rw [horn_zero]; rfl⟩
  case round =>
   obtain ⟨k, hk, rfl, rfl⟩ := hrel
   by_cases hlt : k < n
   ·have hkr : k < r.length := by rw [HL.out]; exact hlt
    have hs := horn_succ r k hkr
    have hx := horn_le r (k + 1) (by omega) (by omega)
    have hcl := HC.out k hkr
    generalize r[k] = u at hs hcl
    have hu : u.toNat ≤ 255 := by have := u.toNat_lt; omega
    generalize hxk : horn r k = x at hs ⊢
    rw [hs] at hx
    have HS := hid hs
    have i0 : (0 : Int) ≤ (p : Int) + (n : Int) - 1 - (k : Int) := by omega
    have i1 : (p : Int) + (n : Int) - 1 - (k : Int) < (l.length : Int) := by omega
    have i2 : ((p : Int) + (n : Int) - 1 - (k : Int)).toNat = p + n - 1 - k := by omega
    clear hs hkr hxk
    go_wp2
    go_round
    case rel => exact ⟨k + 1, by omega, by go_num, by rw [HS.out]; go_num⟩
    case measure => simp [intOf]; omega
   ·have HE : Hid (getB q false = horn r k) := by
     have e : k = n := by omega
     rw [E.out, e]
     exact hid rfl
    go_wp2
    go_ret2
    exact ⟨by rw [HE.out]; rfl, rfl⟩
 ·have HC : Hid (∀ k (h : k < r.length), w.cell? ⟨b, off + (p + k), none⟩ = some (.int .u8 (r[k].toNat : Int))) := by
   intro k h
   rw [hqc k (by omega)]
   congr 3
   subst hr
   simp
  have hlen : decide (l.length < p) = false := decide_eq_false (by omega)
  clear hw hcell hqc hql hq hr hrl
  go_enter Try.func26, Try.ntmps26
  go_wp2_with (go_at_call 52; refine (wide_any _ _).mono ?_; rintro e w' ⟨rfl, rfl⟩; rw [H.out])
  clear hlen
  go_loop [12, 13] (fun v i => ∃ k : Nat, k ≤ n ∧ i = .int .i64 k ∧ v = .int .u64 (horn r k : Nat)) (fun _ i => n - (intOf i).toNat)
  case atStart => exact ⟨0, Nat.zero_le _, rfl, by rw [horn_zero]; rfl⟩
  case round =>
   obtain ⟨k, hk, rfl, rfl⟩ := hrel
   by_cases hlt : k < n
   ·have hkr : k < r.length := by rw [HL.out]; exact hlt
    have hs := horn_succ r k hkr
    have hx := horn_le r (k + 1) (by omega) (by omega)
    have hcl := HC.out k hkr
    generalize r[k] = u at hs hcl
    have hu : u.toNat ≤ 255 := by have := u.toNat_lt; omega
    generalize hxk : horn r k = x at hs ⊢
    rw [hs] at hx
    have HS := hid hs
    have i0 : (0 : Int) ≤ (p : Int) + (k : Int) := by omega
    have i1 : (p : Int) + (k : Int) < (l.length : Int) := by omega
    have i2 : ((p : Int) + (k : Int)).toNat = p + k := by omega
    clear hs hkr hxk
    go_wp2
    go_round
    case rel => exact ⟨k + 1, by omega, by go_num, by rw [HS.out]; go_num⟩
    case measure => simp [intOf]; omega
   ·have HE : Hid (getB q true = horn r k) := by
     have e : k = n := by omega
     rw [E.out, e]
     exact hid rfl
    go_wp2
    go_ret2
    exact ⟨by rw [HE.out]; rfl, rfl⟩
theorem refGet_no (A : Option Addr) (len c : Nat) (p n : Int) (big : Bool) (w : World) (hl : len ≤ c) (hc : c ≤ maxLen) (hp : 0 ≤ p) (h : wid n = false ∨ (wid n = true ∧ wthn p n len = false)) :
  Calls Try.prog 26 #[.slice A len c, .int .u64 p, .int .i64 n, .bool big] w fun e w' =>
   e = .returned (.tuple #[.int .u64 0, .bool false]) ∧ w = w' := by
 unfold maxLen at hc
 rcases h with h | ⟨h, ht⟩
 ·have H := hid h
  clear h
  go_enter Try.func26, Try.ntmps26
  go_wp2_with (go_at_call 52; refine (wide_any _ _).mono ?_; rintro e w' ⟨rfl, rfl⟩; rw [H.out])
  go_ret2
  exact ⟨rfl, rfl⟩
 ·obtain ⟨N, rfl⟩ : ∃ N : Nat, n = N := ⟨n.toNat, by have := wid_cases h; omega⟩
  have hn8 : N ≤ 8 := by have := wid_cases h; omega
  have hlt : ¬ p + N ≤ len := of_decide_eq_false ht
  have H := hid h
  clear h ht
  by_cases h1 : (len : Int) < p
  ·go_enter Try.func26, Try.ntmps26
   go_wp2_with (go_at_call 52; refine (wide_any _ _).mono ?_; rintro e w' ⟨rfl, rfl⟩; rw [H.out])
   go_ret2
   exact ⟨rfl, rfl⟩
  ·have h2 : (len : Int) - p < N := by omega
   go_enter Try.func26, Try.ntmps26
   go_wp2_with (go_at_call 52; refine (wide_any _ _).mono ?_; rintro e w' ⟨rfl, rfl⟩; rw [H.out])
   go_ret2
   exact ⟨rfl, rfl⟩
theorem refGet_any (A : Option Addr) (len c : Nat) (l : List UInt8) (B : Nat) (p n : Int) (big : Bool) (w : World) (h : RB w B A len c l) (hp : 0 ≤ p) :
  Calls Try.prog 26 #[.slice A len c, .int .u64 p, .int .i64 n, .bool big] w fun e w' =>
   e = .returned (.tuple #[.int .u64 (gotV l p n big : Nat), .bool (gotB l p n)]) ∧ w = w' := by
 have hl := h.len
 cases hg : gotB l p n
 ·have e : gotV l p n big = 0 := by simp [gotV, hg]
  rw [e]
  refine refGet_no A len c p n big w h.cap h.max hp ?_
  rw [hl]
  cases hw : wid n
  ·exact .inl rfl
  ·exact .inr ⟨rfl, by simpa [gotB, hw] using hg⟩
 ·have hw : wid n = true ∧ wthn p n l.length = true := by simpa [gotB] using hg
  obtain ⟨N, rfl⟩ : ∃ N : Nat, n = N := ⟨n.toNat, by have := wid_cases hw.1; omega⟩
  obtain ⟨K, rfl⟩ : ∃ N : Nat, p = N := ⟨p.toNat, by omega⟩
  have hN := wid_cases hw.1
  have hpn := of_decide_eq_true hw.2
  obtain ⟨b, off, rfl, _, hcell⟩ := h.pos (by omega)
  have e : gotV l K N big = getB ((l.drop K).take N) big := by simp [gotV, hg]
  rw [e, hl]
  exact refGet_yes b off c l K N big w hw.1 (by omega) (by have := h.cap; omega) h.max hcell
def Numbed (l : List UInt8) (big : Bool) (p : Nat) (ns : List Nat) (w : World) (e : Ending) (w' : World) : Prop :=
 (p + sumN ns ≤ l.length ∧ ∃ A2 c2, e = .returned (.tuple #[.slice A2 ns.length c2, .bool true]) ∧ ON w' w.heap.size 28 .u64 A2 ns.length c2 (nums l big p ns) ∧ Grow w w') ∨
 (l.length < p + sumN ns ∧ e = .returned (.tuple #[.slice none 0 0, .bool false]) ∧ Grow w w')
set_option maxHeartbeats 400000 in
theorem numbersRef_any (A : Option Addr) (len c : Nat) (l : List UInt8) (p : Nat) (A' : Option Addr) (n' c' : Nat) (ns : List Nat) (big : Bool) (w : World)
  (h : RB w w.heap.size A len c l) (h' : NS w w.heap.size .i64 A' n' c' ns) (hp : p < 18446744073709551616) (hw : ∀ k (h : k < ns.length), wid ns[k] = true) (h0 : 0 < ns.length) (hfew : ns.length ≤ 100) :
  Calls Try.prog 77 #[.slice A len c, .int .u64 p, .slice A' n' c', .bool big] w (Numbed l big p ns w) := by
 have hn' := h'.len
 have hn : len = l.length := h.len
 have hmx := h.max
 have hcp := h.cap
 unfold maxLen at hmx
 have HN := hid hn
 have HN' := hid hn'
 have HR := hid h
 have HS := hid h'
 have HW := hid hw
 have hn100 : n' ≤ 100 := by omega
 have hn0 : 0 < n' := by omega
 clear h h' hw hn hn' hfew h0
 obtain ⟨b', off', rfl, hb1', hc1'⟩ := HS.out.pos hn0
 have HC := hid hc1'
 clear hc1'
 go_enter Try.func77, Try.ntmps77
 go_wp2_with fail
 go_loopw [1, 10, 11] (fun a x i wr => ∃ (k : Nat) (A2 : Option Addr) (c2 at' : Nat), k ≤ n' ∧ i = .int .i64 k ∧ a = .int .u64 at' ∧ x = .slice A2 k c2 ∧ at' = p + sumN (ns.take k) ∧ at' < 18446744073709551616 ∧ (0 < k → at' ≤ len) ∧
  ON wr w.heap.size 28 .u64 A2 k c2 (nums l big p (ns.take k)) ∧ Below w.heap.size w wr) (fun _ _ i _ => n' - (intOf i).toNat)
 case atStart => exact ⟨0, none, 0, p, Nat.zero_le _, rfl, rfl, rfl, rfl, hp, fun h => absurd h (Nat.lt_irrefl 0), ON.nil, Below.refl _ _⟩
 case round =>
  obtain ⟨k, A2, c2, at', hk, rfl, rfl, rfl, ha, ha64, hal, ho, hb⟩ := hrel
  by_cases hlt : k < n'
  ·have hkq : k < ns.length := by rw [← HN'.out]; exact hlt
   have y2 : wr.cell? ⟨b', off' + k, none⟩ = some (.int .i64 (ns[k] : Int)) := (hb.cell hb1').trans (HC.out k hkq)
   have HM := hid (nums_succ l big ns p k hkq)
   have HU := hid (sumN_succ ns k hkq)
   have HWk := hid (HW.out k hkq)
   have HLE := hid (sumN_le ns (k + 1))
   have HA := hid ha
   have HAL := hid hal
   have HO := hid ho
   have HG := hid hb
   rw [← HA.out] at HM
   have hw8 : ns[k] ≤ 8 := by have := wid_cases HWk.out; omega
   have HC2 : Hid (w.cell? ⟨b', off' + k, none⟩ = some (.int .i64 (ns[k] : Int))) := HC.out k hkq
   generalize ns[k] = m at y2 HM HU HWk hw8 HC2
   have z1 : (0 : Int) ≤ (k : Int) := by omega
   have z3 : (k : Int) < (n' : Int) := by omega
   clear ha hal ho hb
   have HR1 : Hid (RB wr w.heap.size A len c l) := HR.out.belowAt HG.out (Nat.le_refl _)
   go_wp2_with fail
   refine (refGet_any A len c l _ at' m big _ HR1.out (by omega)).mono ?_
   rintro e w2 ⟨rfl, rfl⟩
   clear y2
   have hg : gotB l at' m = decide (at' + m ≤ len) := by
    simp only [gotB, HWk.out, Bool.true_and, wthn, HN.out]
    rw [Bool.eq_iff_iff, decide_eq_true_iff, decide_eq_true_iff]; omega
   by_cases hin : at' + m ≤ len
   ·have hv : gotV l at' m big = getB ((l.drop at').take m) big := by
     simp only [gotV, hg, hin, decide_true, if_true, Int.toNat_natCast]
    have hgt : gotB l at' m = true := by rw [hg]; exact decide_eq_true hin
    rw [hgt, hv]
    generalize getB ((l.drop at').take m) big = v at HM ⊢
    have HIN := hid hin
    clear hin hg hgt hv HR1
    go_wp2_with (at_builtin; refine wpList_append1 _ rfl (.tmp 33) (.tmp 35) 51 rfl w.heap.size 28 .u64 8 Try.underlying51 (by kernel_rfl) A2 k c2 _ rfl (HO.out.keep (Grow.of_alloc _ _)) wr.heap.size _ v rfl (Blk.new _ _ _) (by unfold maxLen; omega) (by omega) (by have := HG.out.size; simp; omega) ?_; intro A3 c3 w3 ho3 hb3; have HG3 : Hid (Below w.heap.size w w3) := (HG.out.trans ((Grow.of_alloc wr _).mono HG.out.size)).trans hb3; have HO3 := hid ho3; have y3 : w3.cell? ⟨b', off' + k, none⟩ = some (.int .i64 (m : Int)) := (HG3.out.cell hb1').trans (HC2.out); have hin2 := HIN.out; clear ho3 hb3)
    go_roundw
    case rel => exact ⟨k + 1, A3, c3, at' + m, by omega, by go_num, by go_num, rfl, by rw [HU.out, HA.out]; omega, by omega, fun _ => HIN.out, by rw [HM.out]; exact HO3.out, HG3.out⟩
    case measure => simp [intOf]; omega
   ·have hgt : gotB l at' m = false := by rw [hg]; exact decide_eq_false hin
    rw [hgt]
    have HF : Hid (l.length < p + sumN ns) := by
     have e2 := HU.out; have e3 := HA.out; have e4 := HN.out
     have e1 : sumN (ns.take k) + m ≤ sumN ns := by rw [← e2]; exact HLE.out
     exact hid (by omega)
    clear hin hg hgt
    go_wp2
    go_ret2
    exact .inr ⟨HF.out, rfl, HG.out⟩
  ·have HK : Hid (ns.take k = ns) := by
    have e : k = n' := by omega
    rw [e, HN'.out]
    exact List.take_length
   have HKn : Hid (k = ns.length) := by rw [← HN'.out]; exact (by omega : k = n')
   rw [HK.out] at ho ha
   have HF : Hid (p + sumN ns ≤ l.length) := by
    have e4 := HN.out
    rw [← ha, ← e4]; exact hal (by omega)
   have HO := hid ho
   have HG := hid hb
   clear ho hb ha hal
   go_wp2
   go_ret2
   exact .inl ⟨HF.out, A2, c2, by rw [← HKn.out]; rfl, by rw [← HKn.out]; exact HO.out, HG.out⟩
theorem wp_cut {P : Program} {c : Code} {a : Act} {w : World} {K : Act → World → Prop} {Q : Exit → Act → World → Prop} (I : Act → Act → World → Prop) (h : c.wp P (fun e a' w' => e = .normal ∧ I a a' w') a w) (hk : ∀ a' w', I a a' w' → K a' w') : c.wp P (Exit.then K Q) a w :=
 wp_mono h fun e a' w' ⟨he, hi⟩ => by subst he; exact hk a' w' hi
def RAllDO (l : List UInt8) (wide big : Bool) (w : World) (e : Ending) (w' : World) : Prop :=
 (dyIn l wide big = true ∧ ∃ A c, e = .returned (.tuple #[.slice A (dyK l wide big) c, .int .i64 (-1)]) ∧ ZO w' w.heap.size 77 2 A (dyK l wide big) c ((dyns l wide big).map Dy.C) ∧ Grow w w') ∨
 (dyIn l wide big = false ∧ e = .returned (.tuple #[.slice none 0 0, .int .i64 ((dyK l wide big * dySize wide : Nat) : Int)]) ∧ Grow w w')
theorem ON.at2 {w : World} {base : Nat} {e : TypeId} {k : IntKind} {A : Option Addr} {c : Nat} {x0 x1 : Nat} (h : ON w base e k A 2 c [x0, x1]) :
  ∃ g cs, A = some ⟨g, 0, none⟩ ∧ base ≤ g ∧ Blk w g e cs ∧ 2 ≤ c ∧ ∀ W, Blk W g e cs → W.cell? ⟨g, 0, none⟩ = some (.int k x0) ∧ W.cell? ⟨g, 1, none⟩ = some (.int k x1) := by
 obtain ⟨g, cs, hA, hb, hB, hc, key⟩ := h.cells (by omega)
 exact ⟨g, cs, hA, hb, hB, hc, fun W hW => ⟨key W hW 0 _ (by omega) rfl, key W hW 1 _ (by omega) rfl⟩⟩
set_option maxHeartbeats 1000000 in
theorem rAllDO_any (A : Option Addr) (n c : Nat) (l : List UInt8) (wide big : Bool) (w : World) (h : RB w w.heap.size A n c l) (h10 : l.length ≤ 100000) :
  Calls Try.prog 54 #[.slice A n c, .agg #[.bool wide, .bool big]] w (RAllDO l wide big w) := by
 have HR := hid h
 obtain rfl := h.len
 have hcp := h.cap
 have hmx := h.max
 unfold maxLen at hmx
 clear h
 have HW := hid (fun w => dWord_any wide big w)
 have hs24 := dySize_le wide
 have hs0 := dySize_pos wide
 have Hsw : Hid (dySize wide = 2 * dyW wide) := hid rfl
 have HTo := hid (dynTo_succ l wide big)
 have HT0 : Hid ((dynTo l wide big 0).map Dy.C = []) := hid rfl
 have HSy : Hid (dyns l wide big = dynTo l wide big (dyK l wide big)) := hid rfl
 have HSt := hid (dy_step l wide big)
 have HNu : Hid (∀ (q : Nat) (W : World) (g : Nat), q ≤ l.length → RB W W.heap.size A l.length c l → Blk W g 3 #[.int .i64 (dyW wide : Nat), .int .i64 (dyW wide : Nat)] →
   Calls Try.prog 77 #[.slice A l.length c, .int .u64 q, .slice (some ⟨g, 0, none⟩) 2 2, .bool big] W fun e w' =>
   (q + dySize wide ≤ l.length ∧ ∃ A2 c2, e = .returned (.tuple #[.slice A2 2 c2, .bool true]) ∧ ON w' W.heap.size 28 .u64 A2 2 c2 [(dyOf l q wide big).tag, (dyOf l q wide big).val] ∧ Grow W w') ∨
   (l.length < q + dySize wide ∧ e = .returned (.tuple #[.slice none 0 0, .bool false]) ∧ Grow W w')) := hid fun q W g hq hr hb => by
  have hns : NS W W.heap.size .i64 (some ⟨g, 0, none⟩) 2 2 (dyRow wide) := NS.of_blkN hb rfl (by decide) hb.lt rfl
  refine (numbersRef_any A l.length c l q _ 2 2 (dyRow wide) big W hr hns (by omega) ?_ (by show 0 < 2; decide) (by show 2 ≤ 100; decide)).mono fun e w' he => ?_
  ·intro k hk
   match k, hk with
   | 0, _ => exact dyW_wid wide
   | 1, _ => exact dyW_wid wide
  ·rw [Numbed, sum_dyRow, nums_dy] at he
   exact he
 unfold RAllDO
 generalize dyns l wide big = S at HSy ⊢
 generalize dynTo l wide big = T at HTo HSy HT0
 generalize dySize wide = sz at hs24 hs0 Hsw HTo HSt HNu ⊢
 generalize dyW wide = wd at Hsw HW HNu
 generalize dyK l wide big = K at HSy HSt ⊢
 obtain ⟨M, hM⟩ : ∃ M, M = K * sz := ⟨_, rfl⟩
 rw [← hM]
 have HM := hid hM
 clear hM
 generalize dyIn l wide big = R at HSt ⊢
 go_enter Try.func54, Try.ntmps54
 go_wp2_with fail
 generalize hW : World.alloc _ _ = W0
 obtain ⟨bf, hg0⟩ := blk1 hW
 clear hW
 refine (HW.out W0).mono ?_
 rintro e w1 ⟨rfl, hg1⟩
 have HBF1 := hid (bf.grow hg1)
 have HG1 : Hid (Grow w w1) := hg0.trans hg1
 clear bf hg0 hg1 HW
 go_wp2_with fail
 go_loopw [7, 8] (fun x i wr => ∃ (k q : Nat) (A2 : Option Addr) (c2 : Nat), k ≤ K ∧ q = k * sz ∧ k ≤ q ∧ q ≤ l.length ∧ i = .int .i64 q ∧ x = .slice A2 k c2 ∧ ZO wr (w.heap.size + 1) 77 2 A2 k c2 ((T k).map Dy.C) ∧
  Blk wr w.heap.size 23 #[.bool wide, .bool big] ∧ Grow w wr) (fun _ i _ => l.length - (intOf i).toNat)
 case atStart => exact ⟨0, 0, none, 0, Nat.zero_le _, by omega, Nat.le_refl _, Nat.zero_le _, rfl, rfl, by rw [HT0.out]; exact ZO.nil, HBF1.out, HG1.out⟩
 case round =>
  obtain ⟨k, q, A2, c2, hk, hq, hkq, hql, rfl, rfl, ho, hbf, hg⟩ := hrel
  have HO := hid ho
  have HBF := hid hbf
  have HG := hid hg
  have HQ := hid hq
  have hst := HSt.out k hk
  rw [← hq] at hst
  have HK := hid hst
  have z2 : IntKind.u64.wrap (q : Int) = (q : Int) := by rw [IntKind.wrap_u64]; omega
  clear ho hbf hg hst hq HBF1 HG1
  obtain ⟨f0, f1⟩ := (HBF.out.alloc (.cells #[.int .i64 (wd : Int), .int .i64 (wd : Int)] 3)).c2
  go_wp2_with fail
  clear f0 f1 z2
  have HN3 := hid (Blk.new wr 3 #[.int .i64 (wd : Int), .int .i64 (wd : Int)])
  have HB3 := hid (HBF.out.alloc (.cells #[.int .i64 (wd : Int), .int .i64 (wd : Int)] 3))
  have HO3 := hid (HO.out.keep (Grow.of_alloc wr (.cells #[.int .i64 (wd : Int), .int .i64 (wd : Int)] 3)))
  have HG3 : Hid (Grow w (wr.alloc (.cells #[.int .i64 (wd : Int), .int .i64 (wd : Int)] 3))) := HG.out.trans (Grow.of_alloc _ _)
  generalize wr.alloc _ = w3 at HN3 HB3 HO3 HG3 ⊢
  generalize wr.heap.size = g3 at HN3 ⊢
  clear HO HBF HG
  refine (HNu.out q w3 g3 hql (HR.out.grow HG3.out) HN3.out).mono ?_
  rintro e w5 (⟨hin, A4, c4, rfl, ho5, hg5⟩ | ⟨hbad, rfl, hg5⟩)
  ·have HS1 := hid (HTo.out k)
   rw [← HQ.out] at HS1
   have HK2 := hid (HK.out.2.1 hin)
   have HK3 := hid (HK.out.2.2 hin)
   generalize dyOf l q wide big = s at HS1 ho5 HK2 HK3
   obtain ⟨tag, val⟩ := s
   simp only [] at ho5 HK2 HK3
   have HS2 : Hid ((T (k + 1)).map Dy.C = (T k).map Dy.C ++ [#[.int .u64 (tag : Int), .int .u64 (val : Int)]]) := hid (by rw [HS1.out, List.map_append, List.map_cons, List.map_nil]; rfl)
   obtain ⟨gn, cs, rfl, hle4, hbn, hc4, hcells⟩ := ho5.at2
   have HCells := hid hcells
   have HBN := hid hbn
   have HNe : Hid (own A2 ≠ some gn) := hid (HO3.out.ne (.inr hle4))
   have HB5 := hid (HB3.out.grow hg5)
   have HO5 := hid (HO3.out.keep hg5)
   have HG5 : Hid (Grow w w5) := HG3.out.trans hg5
   clear HS1 HK hle4 hbn hcells hg5 ho5 HN3 HB3 HO3 HG3
   obtain ⟨y0, -⟩ := HCells.out w5 HBN.out
   by_cases ht : tag = 0
   ·obtain ⟨rfl, rfl⟩ := HK2.out ht
    subst ht
    clear HK2 HK3
    go_wp2
    go_ret2
    exact ⟨A2, c2, rfl, by rw [HSy.out]; exact HO5.out.mono (Nat.le_succ _), HG5.out⟩
   ·have hk1 := HK3.out ht
    have d1 : ((tag : Int) == 0) = false := by simp; omega
    clear HK2 HK3 ht
    go_wp2_with fail
    clear y0 d1
    refine wp_region_leap (leap_kept (fun j => j = gn)) [(0, true), (1, true), (2, true), (3, true), (4, true), (5, true), (6, true), (7, true), (8, false), (9, false), (10, true)] (by kernel_rfl) (by kernel_rfl) (by kernel_rfl) ?_
    have HX : Hid (∀ W, Kept (fun j => j = gn) w5.drew W → _ ∧ _) := fun W hW => HCells.out W ((HBN.out.drew).kept hW rfl)
    have HB6 := hid HB5.out.drew
    have HO6 : Hid (ZO w5.drew _ _ _ _ _ _ _) := HO5.out
    have HG6 : Hid (Grow w w5.drew) := HG5.out.trans (Grow.of_drew _)
    generalize w5.drew = w6 at HX HB6 HO6 HG6 ⊢
    clear HB5 HO5 HG5 HBN HCells
    repeat (refine chain_take rfl (by rfl) ?_ (fun W hG => ?_) ?_; rotate_left; (obtain ⟨q1, q2⟩ := HX.out W hG; go_simp; rfl); simp only [Act.put, List.setIfInBounds_toArray, List.set_cons_zero, List.set_cons_succ])
    clear HX
    refine chain_only rfl (by rfl) (fun K hK => ?_)
    go_simp
    refine hK _ _ (Kept.of_grow (Grow.of_alloc _ _)) ?_
    clear hK K
    have hal : Below (w.heap.size + 1) w6 (w6.alloc (.cells #[.int .u64 (tag : Int), .int .u64 (val : Int)] 77)) := Below.alloc (Below.refl _ _) HB6.out.lt _
    have HSz := hid (Nat.le_trans (show w.heap.size + 1 ≤ w6.heap.size from HB6.out.lt) hal.size)
    have HNu2 := hid (Blk.new w6 77 #[.int .u64 (tag : Int), .int .u64 (val : Int)])
    have HOA := hid (HO6.out.keep (Grow.of_alloc w6 (.cells #[.int .u64 (tag : Int), .int .u64 (val : Int)] 77)))
    clear hal
    refine chain_only rfl (by rfl) (fun K hK => ?_)
    refine wp_appendZ (w6.alloc (.cells #[.int .u64 (tag : Int), .int .u64 (val : Int)] 77)) (.tmp 33) (.tmp 41) 73 rfl (w.heap.size + 1) 77 dy0.V 2 16 Try.underlying73 (by kernel_rfl) rfl (by omega) A2 k c2 _ rfl HOA.out w6.heap.size _ #[.int .u64 (tag : Int), .int .u64 (val : Int)] rfl HNu2.out rfl (by simp [Value.oneCell']) (by unfold maxLen; omega) (by omega) HSz.out ?_
    intro A5 c5 w9 ho9 hg9 _
    refine hK _ _ ⟨hg9.size, fun j hj hj2 => by subst hj2; exact hg9.block _ hj (by first | exact HNe.out | exact Ne.symm HNe.out)⟩ ?_
    clear hK K
    have hal : Below (w.heap.size + 1) w6 (w6.alloc (.cells #[.int .u64 (tag : Int), .int .u64 (val : Int)] 77)) := Below.alloc (Below.refl _ _) HB6.out.lt _
    have hb9 : Below (w.heap.size + 1) w6 w9 := hal.trans ((Below.refl _ _).grown hg9 HSz.out (fun j hj => HO6.out.ge hj))
    have HB9 := hid (HB6.out.below hb9 (Nat.lt_succ_self _))
    have HG9 : Hid (Grow w w9) := HG6.out.trans' (hb9.mono (Nat.le_succ _))
    have HO9 : Hid (ZO w9 (w.heap.size + 1) 77 2 A5 (k + 1) c5 ((T (k + 1)).map Dy.C)) := by rw [HS2.out]; exact ho9
    clear ho9 hg9 hal hb9 HB6 HG6 HO6 HSz HNu2 HOA
    repeat (refine chain_take rfl (by rfl) ?_ (fun W hG => ?_) ?_; rotate_left; (go_simp; rfl); simp only [Act.put, List.setIfInBounds_toArray, List.set_cons_zero, List.set_cons_succ])
    refine chain_done ?_
    have z3 : IntKind.i64.wrap (2 * (wd : Int)) = (sz : Int) := by have := Hsw.out; rw [IntKind.wrap_i64]; omega
    have z4 : IntKind.i64.wrap ((q : Int) + (sz : Int)) = ((q + sz : Nat) : Int) := by rw [IntKind.wrap_i64]; omega
    go_wp2
    go_roundw
    case rel => exact ⟨k + 1, q + sz, A5, c5, hk1, by rw [HQ.out, Nat.succ_mul], by omega, hin, rfl, rfl, HO9.out, HB9.out, HG9.out⟩
    case measure => simp [intOf]; omega
  ·obtain ⟨rfl, rfl⟩ := HK.out.1 hbad
   have HG5 : Hid (Grow w w5) := HG3.out.trans hg5
   clear HK hbad hg5 HG3 HB3 HO3 HN3
   obtain rfl : q = M := HQ.out.trans HM.out.symm
   go_wp2
   go_ret2
   exact ⟨rfl, HG5.out⟩
theorem sumRef_any (A : Option Addr) (n c : Nat) (ns : List Nat) (w : World) (h : NS w w.heap.size .i64 A n c ns) (hn : ns.length ≤ 100) (hw : ∀ k (h : k < ns.length), ns[k] ≤ 8) :
  Calls Try.prog 76 #[.slice A n c] w fun e w' => e = .returned (.int .i64 (sumN ns : Nat)) ∧ w = w' := by
 have HN := hid h.len
 have HS := hid h
 have HW := hid hw
 have hn100 : n ≤ 100 := by rw [h.len]; exact hn
 clear h hw hn
 go_enter Try.func76, Try.ntmps76
 go_wp2_with fail
 go_loop [3, 4] (fun x i => ∃ k s : Nat, k ≤ n ∧ i = .int .i64 k ∧ x = .int .i64 s ∧ s = sumN (ns.take k) ∧ s ≤ 8 * k) (fun _ i => n - (intOf i).toNat)
 case atStart => exact ⟨0, 0, Nat.zero_le _, rfl, rfl, rfl, by omega⟩
 case round =>
  obtain ⟨k, s, hk, rfl, rfl, hs, hs8⟩ := hrel
  have HSum := hid hs
  clear hs
  by_cases hlt : k < n
  ·have hkq : k < ns.length := by rw [← HN.out]; exact hlt
   obtain ⟨b, off, rfl, hb1, hc1⟩ := HS.out.pos (by omega)
   have y := hc1 k hkq
   have HU := hid (sumN_succ ns k hkq)
   have hm := HW.out k hkq
   generalize ns[k] = m at y HU hm
   have z1 : (0 : Int) ≤ (k : Int) := by omega
   have z2 : (k : Int) < (n : Int) := by omega
   clear hc1 hkq
   go_wp2
   go_round
   case rel => exact ⟨k + 1, s + m, by omega, by go_num, by go_num, by rw [HU.out, HSum.out], by omega⟩
   case measure => simp [intOf]; omega
  ·have HK : Hid (s = sumN ns) := by
    have e : k = n := by omega
    rw [HSum.out, e, HN.out]
    exact congrArg sumN List.take_length
   go_wp2
   go_ret
   exact ⟨by rw [← HK.out]; rfl, rfl⟩
end Go.Proofs.Ytfpihkbpelbcbaa
