/-
  The contract of the statements' Few.
-/
import Derived.Test.YthebemikhjglbaaMdA
namespace Go.Proofs.Ythebemikhjglbaa
open Go.RowKit

/-- How many bytes all of them have. -/
def Md.sum (m : Md) : Nat := (m.segs.map fun s => s.pl.own.length).sum + (m.secs.map fun s => s.pl.own.length).sum
/-- Whether a model has few of everything. -/
def Md.few (m : Md) : Nat := if 20 < m.segs.length then 0 else if 70 < m.secs.length then 0 else if 100000 < m.sum then 0 else 1
theorem sum_snoc {α : Type} (f : α → Nat) (l : List α) (k : Nat) (h : k < l.length) : ((l.take (k + 1)).map f).sum = ((l.take k).map f).sum + f l[k] := by
  rw [takeS l k h, List.map_append, List.sum_append]
  simp
theorem sum_le {α : Type} (f : α → Nat) (b : Nat) : ∀ (l : List α), (∀ a ∈ l, f a ≤ b) → (l.map f).sum ≤ l.length * b
  | [], _ => by simp
  | a :: r, h => by
    have := sum_le f b r fun x hx => h x (List.mem_cons_of_mem _ hx)
    have := h a (by simp)
    simp only [List.map_cons, List.sum_cons, List.length_cons, Nat.succ_mul]
    omega
theorem sum_take_le {α : Type} (f : α → Nat) (l : List α) (k : Nat) : ((l.take k).map f).sum ≤ (l.map f).sum := by
  have : (l.map f).sum = ((l.take k).map f).sum + ((l.drop k).map f).sum := by
    rw [← List.sum_append, ← List.map_append, List.take_append_drop]
  omega

set_option maxHeartbeats 1000000 in
theorem few_any (m : Md) (A1 A2 : Option Addr) (n1 c1 n2 c2 : Nat) (w : World) (g1 : ZR sgK w w.heap.size A1 n1 c1 m.segs) (g2 : ZR seK w w.heap.size A2 n2 c2 m.secs) (hsm0 : n1 ≤ 20 → n2 ≤ 70 → m.sum ≤ 4000000000000000000) :
    Calls Try.prog 6 #[.agg (mdC m (.slice A1 n1 c1) (.slice A2 n2 c2))] w fun e w' => e = .returned (.int .i64 (m.few : Nat)) ∧ Grow w w' := by
  obtain ⟨x0, x1, x2, x3, x4, x5, x6, x7, x10, hC⟩ : ∃ x0 x1 x2 x3 x4 x5 x6 x7 x10 : Value, mdC m (.slice A1 n1 c1) (.slice A2 n2 c2) = #[x0, x1, x2, x3, x4, x5, x6, x7, .slice A1 n1 c1, .slice A2 n2 c2, x10] := ⟨_, _, _, _, _, _, _, _, _, rfl⟩
  rw [hC]
  have hm1 := g1.max
  have hc1 := g1.cap
  have hm2 := g2.max
  have hc2 := g2.cap
  have HZ1 := Lib.hid g1
  have HZ2 := Lib.hid g2
  have HL1 := Lib.hid g1.len
  have HL2 := Lib.hid g2.len
  have E := Lib.hid (show m.few = if 20 < n1 then 0 else if 70 < n2 then 0 else if 100000 < m.sum then 0 else 1 by rw [g1.len, g2.len]; rfl)
  have ES : Hid (m.sum = (m.segs.map fun s => s.pl.own.length).sum + (m.secs.map fun s => s.pl.own.length).sum) := Lib.hid rfl
  generalize m.few = R at E ⊢
  generalize m.sum = S at E ES hsm0
  generalize m.segs = L1 at HZ1 HL1 ES
  generalize m.secs = L2 at HZ2 HL2 ES
  have HA : Hid (∀ k, ((L1.take k).map fun s => s.pl.own.length).sum ≤ S) := Lib.hid fun k => by
    have := sum_take_le (fun s : Sg => s.pl.own.length) L1 k
    have := ES.out
    omega
  have HB : Hid (∀ k, (L1.map fun s => s.pl.own.length).sum + ((L2.take k).map fun s => s.pl.own.length).sum ≤ S) := Lib.hid fun k => by
    have := sum_take_le (fun s : Se => s.pl.own.length) L2 k
    have := ES.out
    omega
  clear hC g1 g2
  unfold maxLen at hm1 hm2
  by_cases h1 : 20 < n1
  · have E2 := Lib.hid (show R = 0 by rw [E.out, if_pos h1])
    go_enter Try.func6, Try.ntmps6
    go_wp2
    go_ret
    exact ⟨by rw [E2.out]; rfl, Grow.of_alloc _ _⟩
  rw [if_neg h1] at E
  have d1 : decide (20 < n1) = false := decide_eq_false h1
  have d1' : decide ((20 : Int) < (n1 : Int)) = false := decide_eq_false (by omega)
  by_cases h2 : 70 < n2
  · have E2 := Lib.hid (show R = 0 by rw [E.out, if_pos h2])
    clear h1
    go_enter Try.func6, Try.ntmps6
    go_wp2
    go_ret
    exact ⟨by rw [E2.out]; rfl, Grow.of_alloc _ _⟩
  rw [if_neg h2] at E
  have d2 : decide (70 < n2) = false := decide_eq_false h2
  have d2' : decide ((70 : Int) < (n2 : Int)) = false := decide_eq_false (by omega)
  have HH : Hid (n1 ≤ 20 ∧ n2 ≤ 70) := Lib.hid ⟨by omega, by omega⟩
  have hsm := hsm0 (by omega) (by omega)
  clear h1 h2 hsm0
  go_enter Try.func6, Try.ntmps6
  go_wp2_with fail
  clear d1 d1' d2 d2'
  generalize hW : World.alloc _ _ = W0
  obtain ⟨b1, hg0⟩ := blk1 hW
  clear hW
  have HB1 := Lib.hid b1
  have HG0 := Lib.hid hg0
  have y8 := b1.at 8
  clear b1 hg0
  go_loop [3, 4] (fun x i => ∃ (k : Nat) (t : Nat), k ≤ n1 ∧ i = .int .i64 k ∧ x = .int .i64 (t : Nat) ∧ Hid (t = ((L1.take k).map fun s => s.pl.own.length).sum)) (fun _ i => n1 - (intOf i).toNat)
  case atStart => exact ⟨0, 0, by omega, rfl, rfl, Lib.hid (by simp)⟩
  case round =>
    obtain ⟨k, t, hk, rfl, rfl, HT⟩ := hrel
    by_cases hlt : k < n1
    · have hkl : k < L1.length := by rw [← HL1.out]; exact hlt
      obtain ⟨b, off, rfl, hb⟩ := HZ1.out.pos (by omega)
      obtain ⟨Ak, nk, ck, -, hcell, gk⟩ := HZ1.out.at hkl
      have t9 : W0.cell? ⟨b, off + k * 10 + 9, none⟩ = some (.slice Ak nk ck) := (Below.cell HG0.out hb).trans (hcell 9 _ rfl)
      have HS := Lib.hid (sum_snoc (fun s : Sg => s.pl.own.length) L1 k hkl)
      have hnk : L1[k].pl.own.length = nk := gk.len.symm
      have hle := HA.out (k + 1)
      rw [HS.out, ← HT.out] at hle
      simp only [hnk] at HS hle
      rw [← HT.out] at HS
      clear hcell gk hb hnk
      have z : IntKind.i64.wrap ((t : Int) + (nk : Int)) = ((t + nk : Nat) : Int) := by rw [IntKind.wrap_i64]; omega
      go_wp2
      go_round
      case rel => exact ⟨k + 1, t + nk, by omega, by go_num, by first | rfl | simp, Lib.hid HS.out.symm⟩
      case measure => simp [intOf]; omega
    · obtain rfl : n1 = k := by omega
      have HT1 : Hid (t = (L1.map fun s => s.pl.own.length).sum) := by
        have : L1.take n1 = L1 := by rw [List.take_of_length_le (by have := HL1.out; omega)]
        have h := HT.out
        rw [this] at h
        exact h
      have y9 := HB1.out.at 9
      clear HT
      go_wp2_with fail
      clear y8
      go_loop [3, 5] (fun x i => ∃ (k : Nat) (t' : Nat), k ≤ n2 ∧ i = .int .i64 k ∧ x = .int .i64 (t' : Nat) ∧ Hid (t' = t + ((L2.take k).map fun s => s.pl.own.length).sum)) (fun _ i => n2 - (intOf i).toNat)
      case atStart => exact ⟨0, t, by omega, rfl, rfl, Lib.hid (by simp)⟩
      case round =>
        obtain ⟨k, t', hk, rfl, rfl, HT⟩ := hrel
        by_cases hlt : k < n2
        · have hkl : k < L2.length := by rw [← HL2.out]; exact hlt
          obtain ⟨b, off, rfl, hb⟩ := HZ2.out.pos (by omega)
          obtain ⟨Ak, nk, ck, -, hcell, gk⟩ := HZ2.out.at hkl
          have t9 : W0.cell? ⟨b, off + k * 13 + 12, none⟩ = some (.slice Ak nk ck) := (Below.cell HG0.out hb).trans (hcell 12 _ rfl)
          have HS := Lib.hid (sum_snoc (fun s : Se => s.pl.own.length) L2 k hkl)
          have hnk : L2[k].pl.own.length = nk := gk.len.symm
          have hle := HB.out (k + 1)
          rw [HS.out, ← HT1.out, ← Nat.add_assoc, ← HT.out] at hle
          simp only [hnk] at HS hle
          have HS2 : Hid (t' + nk = t + ((L2.take (k + 1)).map fun s => s.pl.own.length).sum) := Lib.hid (by rw [HS.out, ← Nat.add_assoc, ← HT.out])
          clear hcell gk hb hnk HS
          have z : IntKind.i64.wrap ((t' : Int) + (nk : Int)) = ((t' + nk : Nat) : Int) := by rw [IntKind.wrap_i64]; omega
          go_wp2
          go_round
          case rel => exact ⟨k + 1, t' + nk, by omega, by go_num, by first | rfl | simp, HS2⟩
          case measure => simp [intOf]; omega
        · obtain rfl : n2 = k := by omega
          have HS : Hid (t' = S) := by
            have : L2.take n2 = L2 := by rw [List.take_of_length_le (by have := HL2.out; omega)]
            have h := HT.out
            rw [this, HT1.out, ← ES.out] at h
            exact h
          by_cases hb : 100000 < t'
          · have E2 := Lib.hid (show R = 0 by rw [E.out, ← HS.out, if_pos hb])
            have d : decide (100000 < t') = true := decide_eq_true hb
            have d' : decide ((100000 : Int) < (t' : Int)) = true := decide_eq_true (by omega)
            clear hb
            go_wp2
            go_ret
            exact ⟨by rw [E2.out]; rfl, HG0.out⟩
          · have E2 := Lib.hid (show R = 1 by rw [E.out, ← HS.out, if_neg hb])
            have d : decide (100000 < t') = false := decide_eq_false hb
            have d' : decide ((100000 : Int) < (t' : Int)) = false := decide_eq_false (by omega)
            clear hb
            go_wp2
            go_ret
            exact ⟨by rw [E2.out]; rfl, HG0.out⟩
end Go.Proofs.Ythebemikhjglbaa
