/-
  The contract of the document's own Get (layer 1): the same answer as wire.Get's.
-/
import Derived.Test.YtfnaigeakfgpbaaRefA
import Derived.Test.YtfnaigeakfgpbaaWireGet
namespace Go.Proofs.Ytfnaigeakfgpbaa
open Go.RowKit

/-- The number of the first k bytes, the highest first. -/
def horn (r : List UInt8) (k : Nat) : Nat := num (r.take k).reverse
theorem horn_zero (r : List UInt8) : horn r 0 = 0 := by simp [horn, num]
theorem horn_succ (r : List UInt8) (k : Nat) (h : k < r.length) : horn r (k + 1) = 256 * horn r k + r[k].toNat := by
  unfold horn
  rw [take_snoc' r k h, List.reverse_append]
  simp [num]; omega
theorem horn_lt (r : List UInt8) (k : Nat) (h : k ≤ r.length) : horn r k < 256 ^ k := by
  have := num_lt (r.take k).reverse
  rw [List.length_reverse, List.length_take, Nat.min_eq_left h] at this
  exact this
theorem horn_le (r : List UInt8) (k : Nat) (h : k ≤ r.length) (h8 : k ≤ 8) : horn r k ≤ 18446744073709551615 := by
  have h1 := horn_lt r k h
  have h2 : (256 : Nat) ^ k ≤ 256 ^ 8 := Nat.pow_le_pow_right (by omega) h8
  have h3 : (256 : Nat) ^ 8 = 18446744073709551616 := by decide
  omega

set_option maxHeartbeats 400000 in
theorem refGet_yes (b off c : Nat) (l : List UInt8) (p n : Nat) (big : Bool) (w : World) (hw : wid n = true) (hp : p + n ≤ l.length) (hl : l.length ≤ c) (hc : c ≤ maxLen)
    (hcell : ∀ j (h : j < l.length), w.cell? ⟨b, off + j, none⟩ = some (.int .u8 (l[j].toNat : Int))) :
    Calls Try.prog 40 #[.slice (some ⟨b, off, none⟩) l.length c, .int .u64 p, .int .i64 n, .bool big] w fun e w' =>
      e = .returned (.tuple #[.int .u64 (getB ((l.drop p).take n) big : Nat), .bool true]) ∧ w = w' := by
  unfold maxLen at hc
  have hn8 : n ≤ 8 := by have := wid_cases hw; omega
  obtain ⟨q, hq⟩ : ∃ q, q = (l.drop p).take n := ⟨_, rfl⟩
  have hql : q.length = n := by rw [hq]; simp; omega
  have hqc : ∀ j (h : j < q.length), w.cell? ⟨b, off + (p + j), none⟩ = some (.int .u8 (q[j].toNat : Int)) := by
    intro j h
    rw [hcell (p + j) (by omega)]
    simp [hq]
  rw [← hq]
  obtain ⟨r, hr⟩ : ∃ r, r = ord (!big) q := ⟨_, rfl⟩
  have hrl : r.length = n := by rw [hr, length_ord, hql]
  have E := Lib.hid (show getB q big = horn r n by
    rw [horn, ← hrl, List.take_length, hr]; cases big <;> simp [getB, ord])
  have H := Lib.hid hw
  have HL := Lib.hid hrl
  cases big
  · have HC : Hid (∀ k (h : k < r.length), w.cell? ⟨b, off + (p + n - 1 - k), none⟩ = some (.int .u8 (r[k].toNat : Int))) := by
      intro k h
      have e : p + n - 1 - k = p + (n - 1 - k) := by omega
      rw [e, hqc (n - 1 - k) (by omega)]
      congr 3
      subst hr
      simp [ord, hql]
    have hlen : decide (l.length < p) = false := decide_eq_false (by omega)
    clear hw hcell hqc hql hq hr hrl
    go_enter Try.func40, Try.ntmps40
    go_wp2_with (go_at_call 44; refine (wide_any _ _).mono ?_; rintro e w' ⟨rfl, rfl⟩; rw [H.out])
    clear hlen
    go_loop [12, 13] (fun v i => ∃ k : Nat, k ≤ n ∧ i = .int .i64 k ∧ v = .int .u64 (horn r k : Nat)) (fun _ i => n - (intOf i).toNat)
    case atStart => exact ⟨0, Nat.zero_le _, rfl, by rw [horn_zero]; rfl⟩
    case round =>
      obtain ⟨k, hk, rfl, rfl⟩ := hrel
      by_cases hlt : k < n
      · have hkr : k < r.length := by rw [HL.out]; exact hlt
        have hs := horn_succ r k hkr
        have hx := horn_le r (k + 1) (by omega) (by omega)
        have hcl := HC.out k hkr
        generalize r[k] = u at hs hcl
        have hu : u.toNat ≤ 255 := by have := u.toNat_lt; omega
        generalize hxk : horn r k = x at hs ⊢
        rw [hs] at hx
        have HS := Lib.hid hs
        have i0 : (0 : Int) ≤ (p : Int) + (n : Int) - 1 - (k : Int) := by omega
        have i1 : (p : Int) + (n : Int) - 1 - (k : Int) < (l.length : Int) := by omega
        have i2 : ((p : Int) + (n : Int) - 1 - (k : Int)).toNat = p + n - 1 - k := by omega
        clear hs hkr hxk
        go_wp2
        go_round
        case rel => exact ⟨k + 1, by omega, by go_num, by rw [HS.out]; go_num⟩
        case measure => simp [intOf]; omega
      · have HE : Hid (getB q false = horn r k) := by
          have e : k = n := by omega
          rw [E.out, e]
          exact Lib.hid rfl
        go_wp2
        go_ret2
        exact ⟨by rw [HE.out]; rfl, rfl⟩
  · have HC : Hid (∀ k (h : k < r.length), w.cell? ⟨b, off + (p + k), none⟩ = some (.int .u8 (r[k].toNat : Int))) := by
      intro k h
      rw [hqc k (by omega)]
      congr 3
      subst hr
      simp
    have hlen : decide (l.length < p) = false := decide_eq_false (by omega)
    clear hw hcell hqc hql hq hr hrl
    go_enter Try.func40, Try.ntmps40
    go_wp2_with (go_at_call 44; refine (wide_any _ _).mono ?_; rintro e w' ⟨rfl, rfl⟩; rw [H.out])
    clear hlen
    go_loop [12, 13] (fun v i => ∃ k : Nat, k ≤ n ∧ i = .int .i64 k ∧ v = .int .u64 (horn r k : Nat)) (fun _ i => n - (intOf i).toNat)
    case atStart => exact ⟨0, Nat.zero_le _, rfl, by rw [horn_zero]; rfl⟩
    case round =>
      obtain ⟨k, hk, rfl, rfl⟩ := hrel
      by_cases hlt : k < n
      · have hkr : k < r.length := by rw [HL.out]; exact hlt
        have hs := horn_succ r k hkr
        have hx := horn_le r (k + 1) (by omega) (by omega)
        have hcl := HC.out k hkr
        generalize r[k] = u at hs hcl
        have hu : u.toNat ≤ 255 := by have := u.toNat_lt; omega
        generalize hxk : horn r k = x at hs ⊢
        rw [hs] at hx
        have HS := Lib.hid hs
        have i0 : (0 : Int) ≤ (p : Int) + (k : Int) := by omega
        have i1 : (p : Int) + (k : Int) < (l.length : Int) := by omega
        have i2 : ((p : Int) + (k : Int)).toNat = p + k := by omega
        clear hs hkr hxk
        go_wp2
        go_round
        case rel => exact ⟨k + 1, by omega, by go_num, by rw [HS.out]; go_num⟩
        case measure => simp [intOf]; omega
      · have HE : Hid (getB q true = horn r k) := by
          have e : k = n := by omega
          rw [E.out, e]
          exact Lib.hid rfl
        go_wp2
        go_ret2
        exact ⟨by rw [HE.out]; rfl, rfl⟩

theorem refGet_no (A : Option Addr) (len c : Nat) (p n : Int) (big : Bool) (w : World) (hl : len ≤ c) (hc : c ≤ maxLen) (hp : 0 ≤ p) (h : wid n = false ∨ (wid n = true ∧ wthn p n len = false)) :
    Calls Try.prog 40 #[.slice A len c, .int .u64 p, .int .i64 n, .bool big] w fun e w' =>
      e = .returned (.tuple #[.int .u64 0, .bool false]) ∧ w = w' := by
  unfold maxLen at hc
  rcases h with h | ⟨h, ht⟩
  · have H := Lib.hid h
    clear h
    go_enter Try.func40, Try.ntmps40
    go_wp2_with (go_at_call 44; refine (wide_any _ _).mono ?_; rintro e w' ⟨rfl, rfl⟩; rw [H.out])
    go_ret2
    exact ⟨rfl, rfl⟩
  · obtain ⟨N, rfl⟩ : ∃ N : Nat, n = N := ⟨n.toNat, by have := wid_cases h; omega⟩
    have hn8 : N ≤ 8 := by have := wid_cases h; omega
    have hlt : ¬ p + N ≤ len := of_decide_eq_false ht
    have H := Lib.hid h
    clear h ht
    by_cases h1 : (len : Int) < p
    · go_enter Try.func40, Try.ntmps40
      go_wp2_with (go_at_call 44; refine (wide_any _ _).mono ?_; rintro e w' ⟨rfl, rfl⟩; rw [H.out])
      go_ret2
      exact ⟨rfl, rfl⟩
    · have h2 : (len : Int) - p < N := by omega
      go_enter Try.func40, Try.ntmps40
      go_wp2_with (go_at_call 44; refine (wide_any _ _).mono ?_; rintro e w' ⟨rfl, rfl⟩; rw [H.out])
      go_ret2
      exact ⟨rfl, rfl⟩

theorem refGet_any (A : Option Addr) (len c : Nat) (l : List UInt8) (B : Nat) (p n : Int) (big : Bool) (w : World) (h : RB w B A len c l) (hp : 0 ≤ p) :
    Calls Try.prog 40 #[.slice A len c, .int .u64 p, .int .i64 n, .bool big] w fun e w' =>
      e = .returned (.tuple #[.int .u64 (gotV l p n big : Nat), .bool (gotB l p n)]) ∧ w = w' := by
  have hl := h.len
  cases hg : gotB l p n
  · have e : gotV l p n big = 0 := by simp [gotV, hg]
    rw [e]
    refine refGet_no A len c p n big w h.cap h.max hp ?_
    rw [hl]
    cases hw : wid n
    · exact .inl rfl
    · exact .inr ⟨rfl, by simpa [gotB, hw] using hg⟩
  · have hw : wid n = true ∧ wthn p n l.length = true := by simpa [gotB] using hg
    obtain ⟨N, rfl⟩ : ∃ N : Nat, n = N := ⟨n.toNat, by have := wid_cases hw.1; omega⟩
    obtain ⟨K, rfl⟩ : ∃ N : Nat, p = N := ⟨p.toNat, by omega⟩
    have hN := wid_cases hw.1
    have hpn := of_decide_eq_true hw.2
    obtain ⟨b, off, rfl, _, hcell⟩ := h.pos (by omega)
    have e : gotV l K N big = getB ((l.drop K).take N) big := by simp [gotV, hg]
    rw [e, hl]
    exact refGet_yes b off c l K N big w hw.1 (by omega) (by have := h.cap; omega) h.max hcell
end Go.Proofs.Ytfnaigeakfgpbaa
