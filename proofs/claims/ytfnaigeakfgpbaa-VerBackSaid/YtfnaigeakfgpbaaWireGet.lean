/-
  The contract of wire.Get: at any bytes, any place, any width, in both orders it returns the number that stands there, and true; or 0 and false. Conditions: the slice reads as a list of bytes (RB), the place is not negative.
-/
import Derived.Test.YtfnaigeakfgpbaaWireA
namespace Go.Proofs.Ytfnaigeakfgpbaa
open Go.RowKit

theorem quietL {P : Program} {f : FuncId} {args : Array Value} {w : World} {v : Value}
    (h : Calls P f args w fun e w' => e = .returned v ∧ w = w') : Calls P f args w fun e w' => e = .returned v ∧ w' = w :=
  h.mono fun _ _ hh => ⟨hh.1, hh.2.symm⟩

theorem shl_lt (u r : Nat) (hu : u ≤ 255) (hr : r < 8) : u * 2 ^ (8 * r) < 18446744073709551616 := by
  have h1 : u * 2 ^ (8 * r) ≤ 255 * 2 ^ (8 * r) := Nat.mul_le_mul_right _ hu
  have h2 : 2 ^ (8 * r) ≤ 2 ^ 56 := Nat.pow_le_pow_right (by omega) (by omega)
  omega
theorem shl_fact (u r : Nat) (hu : u ≤ 255) (hr : r < 8) : Op.shift .shl .u64 (u : Int) .u64 (8 * (r : Nat) : Int) = pure (.int .u64 ((u * 2 ^ (8 * r) : Nat) : Int)) := by
  rw [shift_shl_any _ _ _ _ (by omega), show min ((8 * (r : Nat) : Int)).toNat IntKind.u64.bits = 8 * r by simp [IntKind.bits]; omega, IntKind.wrap_u64]
  congr 2
  have h := shl_lt u r hu hr
  have e : (u : Int) * 2 ^ (8 * r) = ((u * 2 ^ (8 * r) : Nat) : Int) := by simp
  rw [e]
  omega
set_option maxHeartbeats 400000 in
theorem get_yes (b off c : Nat) (l : List UInt8) (p n : Nat) (big : Bool) (w : World) (hw : wid n = true) (hp : p + n ≤ l.length) (hl : l.length ≤ c) (hc : c ≤ maxLen)
    (hcell : ∀ j (h : j < l.length), w.cell? ⟨b, off + j, none⟩ = some (.int .u8 (l[j].toNat : Int))) :
    Calls Try.prog 48 #[.slice (some ⟨b, off, none⟩) l.length c, .int .u64 p, .int .i64 n, .bool big] w fun e w' =>
      e = .returned (.tuple #[.int .u64 (getB ((l.drop p).take n) big : Nat), .bool true]) ∧ ∃ m, w' = w.drewN m := by
  unfold maxLen at hc
  have hn8 : n ≤ 8 := by have := wid_cases hw; omega
  obtain ⟨q, hq⟩ : ∃ q, q = (l.drop p).take n := ⟨_, rfl⟩
  have hql : q.length = n := by rw [hq]; simp; omega
  have hqc : ∀ j (h : j < q.length), w.cell? ⟨b, off + (p + j), none⟩ = some (.int .u8 (q[j].toNat : Int)) := by
    intro j h
    rw [hcell (p + j) (by omega)]
    simp [hq]
  rw [← hq]
  have H := Lib.hid hw
  have HC := Lib.hid hqc
  have HL := Lib.hid hql
  have HT := Lib.hid (show wthn p n l.length = true from decide_eq_true (by omega))
  clear hw hcell hqc hql hq
  go_enter Try.func48, Try.ntmps48
  go_wp2_with (first
    | (go_at_call 42; refine (isWidth_any _ _).mono ?_; rintro e w' ⟨rfl, rfl⟩; rw [H.out])
    | (go_at_call 45; refine (within_any _ _ _ _ (by omega) (by omega) (by omega)).mono ?_; rintro e w' ⟨rfl, rfl⟩; rw [HT.out]))
  go_loopw [10, 26] (fun v i wr => ∃ k : Nat, k ≤ n ∧ i = .int .i64 k ∧ v = .int .u64 (part q big k : Nat) ∧ ∃ m, wr = w.drewN m) (fun _ i _ => n - (intOf i).toNat)
  case atStart => exact ⟨0, Nat.zero_le _, rfl, by rw [part_zero]; rfl, 0, rfl⟩
  case round =>
    obtain ⟨k, hk, rfl, rfl, hm⟩ := hrel
    have HM := Lib.hid hm
    have hcw : ∀ a, wr.cell? a = w.cell? a := by obtain ⟨m, rfl⟩ := hm; intro a; rfl
    clear hm
    by_cases hlt : k < n
    · have hkq : k < q.length := by rw [HL.out]; exact hlt
      obtain ⟨u, hu⟩ : ∃ u : UInt8, u = q[k] := ⟨_, rfl⟩
      have hcl : wr.cell? ⟨b, off + (p + k), none⟩ = some (.int .u8 u.toNat) := by rw [hcw, hu]; exact HC.out k hkq
      have HS := Lib.hid (part_succ q big k hkq)
      rw [← hu, HL.out] at HS
      have hu8 : u.toNat ≤ 255 := by have := u.toNat_lt; omega
      clear hu hkq hcw
      go_wp2_with fail
      have z1 : IntKind.u64.wrap (k : Int) = (k : Int) := by rw [IntKind.wrap_u64]; omega
      have z2 : IntKind.u64.wrap ((p : Int) + (k : Int)) = (p : Int) + (k : Int) := by rw [IntKind.wrap_u64]; omega
      have z6 : IntKind.u64.wrap (u.toNat : Int) = (u.toNat : Int) := by rw [IntKind.wrap_u64]; omega
      obtain ⟨x, hx⟩ : ∃ x, x = u.toNat * 2 ^ (8 * rank k n big) := ⟨_, rfl⟩
      have z7 : Op.shift .shl .u64 (u.toNat : Int) .u64 (8 * (rank k n big : Nat) : Int) = pure (.int .u64 (x : Int)) := by rw [hx]; exact shl_fact u.toNat (rank k n big) (by omega) (by have := rank_lt k n big hlt; omega)
      rw [← hx] at HS
      have h1 : part q big k < 18446744073709551616 := Nat.lt_of_lt_of_le (part_lt q big k (by rw [HL.out]; exact hk)) (by rw [HL.out]; exact (Nat.pow_le_pow_right (by omega) hn8 : 256 ^ n ≤ 256 ^ 8))
      have h2 : x < 18446744073709551616 := by rw [hx]; exact shl_lt u.toNat (rank k n big) (by omega) (by have := rank_lt k n big hlt; omega)
      clear hx
      have z3 : (0 : Int) ≤ (p : Int) + (k : Int) := by omega
      have z4 : ((p : Int) + (k : Int)).toNat = p + k := by omega
      have z5 : (p : Int) + (k : Int) < (l.length : Int) := by omega
      go_quiet ((go_at_call 43; exact Calls.quiet_of_same (quietL (shift_any k n big _ hlt hn8))))
      clear z1 z2 z3 z4 z5 z6 z7
      rw [u64_or_nat _ _ h1 h2, ← HS.out]
      clear h1 h2
      go_wp2
      go_roundw
      case rel => exact ⟨k + 1, by omega, by go_num, rfl, by obtain ⟨m, hm⟩ := HM.out; exact ⟨m + nq, by rw [hm, World.drewN_drewN]⟩⟩
      case measure => simp [intOf]; omega
    · go_wp2
      go_ret2
      have e : k = q.length := by rw [HL.out]; omega
      exact ⟨by rw [e, part_all]; rfl, HM.out⟩

def gotB (l : List UInt8) (p n : Int) : Bool := wid n && wthn p n l.length
def gotV (l : List UInt8) (p n : Int) (big : Bool) : Nat := if gotB l p n then getB ((l.drop p.toNat).take n.toNat) big else 0

theorem get_no (A : Option Addr) (len c : Nat) (p n : Int) (big : Bool) (w : World) (hl : len ≤ c) (hc : c ≤ maxLen) (hp : 0 ≤ p) (h : wid n = false ∨ (wid n = true ∧ wthn p n len = false)) :
    Calls Try.prog 48 #[.slice A len c, .int .u64 p, .int .i64 n, .bool big] w fun e w' =>
      e = .returned (.tuple #[.int .u64 0, .bool false]) ∧ w = w' := by
  unfold maxLen at hc
  rcases h with h | ⟨h, ht⟩
  · have H := Lib.hid h
    clear h
    go_enter Try.func48, Try.ntmps48
    go_wp2_with (go_at_call 42; refine (isWidth_any _ _).mono ?_; rintro e w' ⟨rfl, rfl⟩; rw [H.out])
    go_ret2
    exact ⟨rfl, rfl⟩
  · obtain ⟨N, rfl⟩ : ∃ N : Nat, n = N := ⟨n.toNat, by have := wid_cases h; omega⟩
    have hn8 : N ≤ 8 := by have := wid_cases h; omega
    have H := Lib.hid h
    have HT := Lib.hid ht
    clear h ht
    go_enter Try.func48, Try.ntmps48
    go_wp2_with (first
      | (go_at_call 42; refine (isWidth_any _ _).mono ?_; rintro e w' ⟨rfl, rfl⟩; rw [H.out])
      | (go_at_call 45; refine (within_any _ _ _ _ (by omega) (by omega) (by omega)).mono ?_; rintro e w' ⟨rfl, rfl⟩; rw [HT.out]))
    go_ret2
    exact ⟨rfl, rfl⟩

theorem get_any (A : Option Addr) (len c : Nat) (l : List UInt8) (B : Nat) (p n : Int) (big : Bool) (w : World) (h : RB w B A len c l) (hp : 0 ≤ p) :
    Calls Try.prog 48 #[.slice A len c, .int .u64 p, .int .i64 n, .bool big] w fun e w' =>
      e = .returned (.tuple #[.int .u64 (gotV l p n big : Nat), .bool (gotB l p n)]) ∧ ∃ m, w' = w.drewN m := by
  have hl := h.len
  cases hg : gotB l p n
  · have e : gotV l p n big = 0 := by simp [gotV, hg]
    rw [e]
    refine (get_no A len c p n big w h.cap h.max hp ?_).mono fun e w' ⟨h1, h2⟩ => ⟨h1, 0, h2.symm⟩
    rw [hl]
    cases hw : wid n
    · exact .inl rfl
    · exact .inr ⟨rfl, by simpa [gotB, hw] using hg⟩
  · have hw : wid n = true ∧ wthn p n l.length = true := by simpa [gotB] using hg
    obtain ⟨N, rfl⟩ : ∃ N : Nat, n = N := ⟨n.toNat, by have := wid_cases hw.1; omega⟩
    obtain ⟨K, rfl⟩ : ∃ N : Nat, p = N := ⟨p.toNat, by omega⟩
    have hN := wid_cases hw.1
    have hpn := of_decide_eq_true hw.2
    obtain ⟨b, off, rfl, _, hcell⟩ := h.pos (by omega)
    have e : gotV l K N big = getB ((l.drop K).take N) big := by simp [gotV, hg]
    rw [e, hl]
    exact get_yes b off c l K N big w hw.1 (by omega) (by have := h.cap; omega) h.max hcell
end Go.Proofs.Ytfnaigeakfgpbaa
