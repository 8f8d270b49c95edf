/-
  Several texts in one: The contract of the document's own Get (layer 1); The contracts of the document's own Numbers; The contract of the document's own Sum.
-/
import Derived.Test.YtlccbekalccahaaGreatDoorFqH14
import Derived.Test.YtlccbekalccahaaGreatDoorRows
import Derived.Test.YtlccbekalccahaaGreatDoorFqH4
namespace Go.Proofs.YtlccbekalccahaaGreatDoor
open Go.Lib (hid)
open Go.RowKit
def horn (r : List UInt8) (k : Nat) : Nat := num (r.take k).reverse
theorem horn_zero (r : List UInt8) : horn r 0 = 0 := by simp [horn, num]
theorem horn_succ (r : List UInt8) (k : Nat) (h : k < r.length) : horn r (k + 1) = 256 * horn r k + r[k].toNat := by
 unfold horn
 rw [take_snoc' r k h, List.reverse_append]
 simp [num]; omega
theorem horn_lt (r : List UInt8) (k : Nat) (h : k ≤ r.length) : horn r k < 256 ^ k := by
 have := num_lt (r.take k).reverse
 rw [List.length_reverse, List.length_take, Nat.min_eq_left h] at this
 exact this
theorem horn_le (r : List UInt8) (k : Nat) (h : k ≤ r.length) (h8 : k ≤ 8) : horn r k ≤ 18446744073709551615 := by
 have h1 := horn_lt r k h
 have h2 : (256 : Nat) ^ k ≤ 256 ^ 8 := Nat.pow_le_pow_right (by omega) h8
 have h3 : (256 : Nat) ^ 8 = 18446744073709551616 := by decide
 omega
set_option maxHeartbeats 400000 in
theorem refGet_yes (b off c : Nat) (l : List UInt8) (p n : Nat) (big : Bool) (w : World) (hw : wid n = true) (hp : p + n ≤ l.length) (hl : l.length ≤ c) (hc : c ≤ maxLen)
  (hcell : ∀ j (h : j < l.length), w.cell? ⟨b, off + j, none⟩ = some (.int .u8 (l[j].toNat : Int))) :
  Calls Tryz.prog 121 #[.slice (some ⟨b, off, none⟩) l.length c, .int .u64 p, .int .i64 n, .bool big] w fun e w' =>
   e = .returned (.tuple #[.int .u64 (getB ((l.drop p).take n) big : Nat), .bool true]) ∧ w = w' := by
 unfold maxLen at hc
 have hn8 : n ≤ 8 := by have := wid_cases hw; omega
 obtain ⟨q, hq⟩ : ∃ q, q = (l.drop p).take n := ⟨_, rfl⟩
 have hql : q.length = n := by rw [hq]; simp; omega
 have hqc : ∀ j (h : j < q.length), w.cell? ⟨b, off + (p + j), none⟩ = some (.int .u8 (q[j].toNat : Int)) := by
  intro j h
  rw [hcell (p + j) (by omega)]
  simp [hq]
 rw [← hq]
 obtain ⟨r, hr⟩ : ∃ r, r = ord (!big) q := ⟨_, rfl⟩
 have hrl : r.length = n := by rw [hr, length_ord, hql]
 have E := hid (show getB q big = horn r n by
  rw [horn, ← hrl, List.take_length, hr]; cases big <;> simp [getB, ord])
 have H := hid hw
 have HL := hid hrl
 cases big
 ·have HC : Hid (∀ k (h : k < r.length), w.cell? ⟨b, off + (p + n - 1 - k), none⟩ = some (.int .u8 (r[k].toNat : Int))) := by
   intro k h
   have e : p + n - 1 - k = p + (n - 1 - k) := by omega
   rw [e, hqc (n - 1 - k) (by omega)]
   congr 3
   subst hr
   simp [ord, hql]
  have hlen : decide (l.length < p) = false := decide_eq_false (by omega)
  clear hw hcell hqc hql hq hr hrl
  go_enter Tryz.func121, Tryz.ntmps121
  go_wp2_with (go_at_call 139; refine (wide_any _ _).mono ?_; rintro e w' ⟨rfl, rfl⟩; rw [H.out])
  clear hlen
  go_loop [12, 13] (fun v i => ∃ k : Nat, k ≤ n ∧ i = .int .i64 k ∧ v = .int .u64 (horn r k : Nat)) (fun _ i => n - (intOf i).toNat)
  case atStart => exact ⟨0, Nat.zero_le _, rfl, by rw [horn_zero]; rfl⟩
  case round =>
   obtain ⟨k, hk, rfl, rfl⟩ := hrel
   by_cases hlt : k < n
   ·have hkr : k < r.length := by rw [HL.out]; exact hlt
    have hs := horn_succ r k hkr
    have hx := horn_le r (k + 1) (by omega) (by omega)
    have hcl := HC.out k hkr
    generalize r[k] = u at hs hcl
    have hu : u.toNat ≤ 255 := by have := u.toNat_lt; omega
    generalize hxk : horn r k = x at hs ⊢
    rw [hs] at hx
    have HS := hid hs
    have i0 : (0 : Int) ≤ (p : Int) + (n : Int) - 1 - (k : Int) := by omega
    have i1 : (p : Int) + (n : Int) - 1 - (k : Int) < (l.length : Int) := by omega
    have i2 : ((p : Int) + (n : Int) - 1 - (k : Int)).toNat = p + n - 1 - k := by omega
    clear hs hkr hxk
    go_wp2
    go_round
    case rel => exact ⟨k + 1, by omega, by go_num, by rw [HS.out]; go_num⟩
    case measure => simp [intOf]; omega
   ·have HE : Hid (getB q false = horn r k) := by
     have e : k = n := by omega
     rw [E.out, e]
     exact hid rfl
    go_wp2
    go_ret2
    exact ⟨by rw [HE.out]; rfl, rfl⟩
 ·have HC : Hid (∀ k (h : k < r.length), w.cell? ⟨b, off + (p + k), none⟩ = some (.int .u8 (r[k].toNat : Int))) := by
   intro k h
   rw [hqc k (by omega)]
   congr 3
   subst hr
   simp
  have hlen : decide (l.length < p) = false := decide_eq_false (by omega)
  clear hw hcell hqc hql hq hr hrl
  go_enter Tryz.func121, Tryz.ntmps121
  go_wp2_with (go_at_call 139; refine (wide_any _ _).mono ?_; rintro e w' ⟨rfl, rfl⟩; rw [H.out])
  clear hlen
  go_loop [12, 13] (fun v i => ∃ k : Nat, k ≤ n ∧ i = .int .i64 k ∧ v = .int .u64 (horn r k : Nat)) (fun _ i => n - (intOf i).toNat)
  case atStart => exact ⟨0, Nat.zero_le _, rfl, by rw [horn_zero]; rfl⟩
  case round =>
   obtain ⟨k, hk, rfl, rfl⟩ := hrel
   by_cases hlt : k < n
   ·have hkr : k < r.length := by rw [HL.out]; exact hlt
    have hs := horn_succ r k hkr
    have hx := horn_le r (k + 1) (by omega) (by omega)
    have hcl := HC.out k hkr
    generalize r[k] = u at hs hcl
    have hu : u.toNat ≤ 255 := by have := u.toNat_lt; omega
    generalize hxk : horn r k = x at hs ⊢
    rw [hs] at hx
    have HS := hid hs
    have i0 : (0 : Int) ≤ (p : Int) + (k : Int) := by omega
    have i1 : (p : Int) + (k : Int) < (l.length : Int) := by omega
    have i2 : ((p : Int) + (k : Int)).toNat = p + k := by omega
    clear hs hkr hxk
    go_wp2
    go_round
    case rel => exact ⟨k + 1, by omega, by go_num, by rw [HS.out]; go_num⟩
    case measure => simp [intOf]; omega
   ·have HE : Hid (getB q true = horn r k) := by
     have e : k = n := by omega
     rw [E.out, e]
     exact hid rfl
    go_wp2
    go_ret2
    exact ⟨by rw [HE.out]; rfl, rfl⟩
theorem refGet_no (A : Option Addr) (len c : Nat) (p n : Int) (big : Bool) (w : World) (hl : len ≤ c) (hc : c ≤ maxLen) (hp : 0 ≤ p) (h : wid n = false ∨ (wid n = true ∧ wthn p n len = false)) :
  Calls Tryz.prog 121 #[.slice A len c, .int .u64 p, .int .i64 n, .bool big] w fun e w' =>
   e = .returned (.tuple #[.int .u64 0, .bool false]) ∧ w = w' := by
 unfold maxLen at hc
 rcases h with h | ⟨h, ht⟩
 ·have H := hid h
  clear h
  go_enter Tryz.func121, Tryz.ntmps121
  go_wp2_with (go_at_call 139; refine (wide_any _ _).mono ?_; rintro e w' ⟨rfl, rfl⟩; rw [H.out])
  go_ret2
  exact ⟨rfl, rfl⟩
 ·obtain ⟨N, rfl⟩ : ∃ N : Nat, n = N := ⟨n.toNat, by have := wid_cases h; omega⟩
  have hn8 : N ≤ 8 := by have := wid_cases h; omega
  have hlt : ¬ p + N ≤ len := of_decide_eq_false ht
  have H := hid h
  clear h ht
  by_cases h1 : (len : Int) < p
  ·go_enter Tryz.func121, Tryz.ntmps121
   go_wp2_with (go_at_call 139; refine (wide_any _ _).mono ?_; rintro e w' ⟨rfl, rfl⟩; rw [H.out])
   go_ret2
   exact ⟨rfl, rfl⟩
  ·have h2 : (len : Int) - p < N := by omega
   go_enter Tryz.func121, Tryz.ntmps121
   go_wp2_with (go_at_call 139; refine (wide_any _ _).mono ?_; rintro e w' ⟨rfl, rfl⟩; rw [H.out])
   go_ret2
   exact ⟨rfl, rfl⟩
theorem refGet_any (A : Option Addr) (len c : Nat) (l : List UInt8) (B : Nat) (p n : Int) (big : Bool) (w : World) (h : RB w B A len c l) (hp : 0 ≤ p) :
  Calls Tryz.prog 121 #[.slice A len c, .int .u64 p, .int .i64 n, .bool big] w fun e w' =>
   e = .returned (.tuple #[.int .u64 (gotV l p n big : Nat), .bool (gotB l p n)]) ∧ w = w' := by
 have hl := h.len
 cases hg : gotB l p n
 ·have e : gotV l p n big = 0 := by simp [gotV, hg]
  rw [e]
  refine refGet_no A len c p n big w h.cap h.max hp ?_
  rw [hl]
  cases hw : wid n
  ·exact .inl rfl
  ·exact .inr ⟨rfl, by simpa [gotB, hw] using hg⟩
 ·have hw : wid n = true ∧ wthn p n l.length = true := by simpa [gotB] using hg
  obtain ⟨N, rfl⟩ : ∃ N : Nat, n = N := ⟨n.toNat, by have := wid_cases hw.1; omega⟩
  obtain ⟨K, rfl⟩ : ∃ N : Nat, p = N := ⟨p.toNat, by omega⟩
  have hN := wid_cases hw.1
  have hpn := of_decide_eq_true hw.2
  obtain ⟨b, off, rfl, _, hcell⟩ := h.pos (by omega)
  have e : gotV l K N big = getB ((l.drop K).take N) big := by simp [gotV, hg]
  rw [e, hl]
  exact refGet_yes b off c l K N big w hw.1 (by omega) (by have := h.cap; omega) h.max hcell
def Numbed (l : List UInt8) (big : Bool) (p : Nat) (ns : List Nat) (w : World) (e : Ending) (w' : World) : Prop :=
 (p + sumN ns ≤ l.length ∧ ∃ A2 c2, e = .returned (.tuple #[.slice A2 ns.length c2, .bool true]) ∧ ON w' w.heap.size 28 .u64 A2 ns.length c2 (nums l big p ns) ∧ Grow w w') ∨
 (l.length < p + sumN ns ∧ e = .returned (.tuple #[.slice none 0 0, .bool false]) ∧ Grow w w')
set_option maxHeartbeats 400000 in
theorem numbersRef_any (A : Option Addr) (len c : Nat) (l : List UInt8) (p : Nat) (A' : Option Addr) (n' c' : Nat) (ns : List Nat) (big : Bool) (w : World)
  (h : RB w w.heap.size A len c l) (h' : NS w w.heap.size .i64 A' n' c' ns) (hp : p < 18446744073709551616) (hw : ∀ k (h : k < ns.length), wid ns[k] = true) (h0 : 0 < ns.length) (hfew : ns.length ≤ 100) :
  Calls Tryz.prog 81 #[.slice A len c, .int .u64 p, .slice A' n' c', .bool big] w (Numbed l big p ns w) := by
 have hn' := h'.len
 have hn : len = l.length := h.len
 have hmx := h.max
 have hcp := h.cap
 unfold maxLen at hmx
 have HN := hid hn
 have HN' := hid hn'
 have HR := hid h
 have HS := hid h'
 have HW := hid hw
 have hn100 : n' ≤ 100 := by omega
 have hn0 : 0 < n' := by omega
 clear h h' hw hn hn' hfew h0
 obtain ⟨b', off', rfl, hb1', hc1'⟩ := HS.out.pos hn0
 have HC := hid hc1'
 clear hc1'
 go_enter Tryz.func81, Tryz.ntmps81
 go_wp2_with fail
 go_loopw [1, 10, 11] (fun a x i wr => ∃ (k : Nat) (A2 : Option Addr) (c2 at' : Nat), k ≤ n' ∧ i = .int .i64 k ∧ a = .int .u64 at' ∧ x = .slice A2 k c2 ∧ at' = p + sumN (ns.take k) ∧ at' < 18446744073709551616 ∧ (0 < k → at' ≤ len) ∧
  ON wr w.heap.size 28 .u64 A2 k c2 (nums l big p (ns.take k)) ∧ Below w.heap.size w wr) (fun _ _ i _ => n' - (intOf i).toNat)
 case atStart => exact ⟨0, none, 0, p, Nat.zero_le _, rfl, rfl, rfl, rfl, hp, fun h => absurd h (Nat.lt_irrefl 0), ON.nil, Below.refl _ _⟩
 case round =>
  obtain ⟨k, A2, c2, at', hk, rfl, rfl, rfl, ha, ha64, hal, ho, hb⟩ := hrel
  by_cases hlt : k < n'
  ·have hkq : k < ns.length := by rw [← HN'.out]; exact hlt
   have y2 : wr.cell? ⟨b', off' + k, none⟩ = some (.int .i64 (ns[k] : Int)) := (hb.cell hb1').trans (HC.out k hkq)
   have HM := hid (nums_succ l big ns p k hkq)
   have HU := hid (sumN_succ ns k hkq)
   have HWk := hid (HW.out k hkq)
   have HLE := hid (sumN_le ns (k + 1))
   have HA := hid ha
   have HAL := hid hal
   have HO := hid ho
   have HG := hid hb
   rw [← HA.out] at HM
   have hw8 : ns[k] ≤ 8 := by have := wid_cases HWk.out; omega
   have HC2 : Hid (w.cell? ⟨b', off' + k, none⟩ = some (.int .i64 (ns[k] : Int))) := HC.out k hkq
   generalize ns[k] = m at y2 HM HU HWk hw8 HC2
   have z1 : (0 : Int) ≤ (k : Int) := by omega
   have z3 : (k : Int) < (n' : Int) := by omega
   clear ha hal ho hb
   have HR1 : Hid (RB wr w.heap.size A len c l) := HR.out.belowAt HG.out (Nat.le_refl _)
   go_wp2_with fail
   refine (refGet_any A len c l _ at' m big _ HR1.out (by omega)).mono ?_
   rintro e w2 ⟨rfl, rfl⟩
   clear y2
   have hg : gotB l at' m = decide (at' + m ≤ len) := by
    simp only [gotB, HWk.out, Bool.true_and, wthn, HN.out]
    rw [Bool.eq_iff_iff, decide_eq_true_iff, decide_eq_true_iff]; omega
   by_cases hin : at' + m ≤ len
   ·have hv : gotV l at' m big = getB ((l.drop at').take m) big := by
     simp only [gotV, hg, hin, decide_true, if_true, Int.toNat_natCast]
    have hgt : gotB l at' m = true := by rw [hg]; exact decide_eq_true hin
    rw [hgt, hv]
    generalize getB ((l.drop at').take m) big = v at HM ⊢
    have HIN := hid hin
    clear hin hg hgt hv HR1
    go_wp2_with (at_builtin; refine wpList_append1 _ rfl (.tmp 33) (.tmp 35) 59 rfl w.heap.size 28 .u64 8 Tryz.underlying59 (by kernel_rfl) A2 k c2 _ rfl (HO.out.keep (Grow.of_alloc _ _)) wr.heap.size _ v rfl (Blk.new _ _ _) (by unfold maxLen; omega) (by omega) (by have := HG.out.size; simp; omega) ?_; intro A3 c3 w3 ho3 hb3; have HG3 : Hid (Below w.heap.size w w3) := (HG.out.trans ((Grow.of_alloc wr _).mono HG.out.size)).trans hb3; have HO3 := hid ho3; have y3 : w3.cell? ⟨b', off' + k, none⟩ = some (.int .i64 (m : Int)) := (HG3.out.cell hb1').trans (HC2.out); have hin2 := HIN.out; clear ho3 hb3)
    go_roundw
    case rel => exact ⟨k + 1, A3, c3, at' + m, by omega, by go_num, by go_num, rfl, by rw [HU.out, HA.out]; omega, by omega, fun _ => HIN.out, by rw [HM.out]; exact HO3.out, HG3.out⟩
    case measure => simp [intOf]; omega
   ·have hgt : gotB l at' m = false := by rw [hg]; exact decide_eq_false hin
    rw [hgt]
    have HF : Hid (l.length < p + sumN ns) := by
     have e2 := HU.out; have e3 := HA.out; have e4 := HN.out
     have e1 : sumN (ns.take k) + m ≤ sumN ns := by rw [← e2]; exact HLE.out
     exact hid (by omega)
    clear hin hg hgt
    go_wp2
    go_ret2
    exact .inr ⟨HF.out, rfl, HG.out⟩
  ·have HK : Hid (ns.take k = ns) := by
    have e : k = n' := by omega
    rw [e, HN'.out]
    exact List.take_length
   have HKn : Hid (k = ns.length) := by rw [← HN'.out]; exact (by omega : k = n')
   rw [HK.out] at ho ha
   have HF : Hid (p + sumN ns ≤ l.length) := by
    have e4 := HN.out
    rw [← ha, ← e4]; exact hal (by omega)
   have HO := hid ho
   have HG := hid hb
   clear ho hb ha hal
   go_wp2
   go_ret2
   exact .inl ⟨HF.out, A2, c2, by rw [← HKn.out]; rfl, by rw [← HKn.out]; exact HO.out, HG.out⟩
theorem sumRef_any (A : Option Addr) (n c : Nat) (ns : List Nat) (w : World) (h : NS w w.heap.size .i64 A n c ns) (hn : ns.length ≤ 100) (hw : ∀ k (h : k < ns.length), ns[k] ≤ 8) :
  Calls Tryz.prog 82 #[.slice A n c] w fun e w' => e = .returned (.int .i64 (sumN ns : Nat)) ∧ w = w' := by
 have HN := hid h.len
 have HS := hid h
 have HW := hid hw
 have hn100 : n ≤ 100 := by rw [h.len]; exact hn
 clear h hw hn
 go_enter Tryz.func82, Tryz.ntmps82
 go_wp2_with fail
 go_loop [3, 4] (fun x i => ∃ k s : Nat, k ≤ n ∧ i = .int .i64 k ∧ x = .int .i64 s ∧ s = sumN (ns.take k) ∧ s ≤ 8 * k) (fun _ i => n - (intOf i).toNat)
 case atStart => exact ⟨0, 0, Nat.zero_le _, rfl, rfl, rfl, by omega⟩
 case round =>
  obtain ⟨k, s, hk, rfl, rfl, hs, hs8⟩ := hrel
  have HSum := hid hs
  clear hs
  by_cases hlt : k < n
  ·have hkq : k < ns.length := by rw [← HN.out]; exact hlt
   obtain ⟨b, off, rfl, hb1, hc1⟩ := HS.out.pos (by omega)
   have y := hc1 k hkq
   have HU := hid (sumN_succ ns k hkq)
   have hm := HW.out k hkq
   generalize ns[k] = m at y HU hm
   have z1 : (0 : Int) ≤ (k : Int) := by omega
   have z2 : (k : Int) < (n : Int) := by omega
   clear hc1 hkq
   go_wp2
   go_round
   case rel => exact ⟨k + 1, s + m, by omega, by go_num, by go_num, by rw [HU.out, HSum.out], by omega⟩
   case measure => simp [intOf]; omega
  ·have HK : Hid (s = sumN ns) := by
    have e : k = n := by omega
    rw [HSum.out, e, HN.out]
    exact congrArg sumN List.take_length
   go_wp2
   go_ret
   exact ⟨by rw [← HK.out]; rfl, rfl⟩
end Go.Proofs.YtlccbekalccahaaGreatDoor
