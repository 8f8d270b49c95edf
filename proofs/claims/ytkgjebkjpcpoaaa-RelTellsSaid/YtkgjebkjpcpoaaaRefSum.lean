/-
  The contract of the document's own Sum.
-/
import Derived.Test.YtkgjebkjpcpoaaaRefNums
namespace Go.Proofs.Ytkgjebkjpcpoaaa
open Go.RowKit

theorem sumRef_any (A : Option Addr) (n c : Nat) (ns : List Nat) (w : World) (h : NS w w.heap.size .i64 A n c ns) (hn : ns.length ≤ 100) (hw : ∀ k (h : k < ns.length), ns[k] ≤ 8) :
    Calls Try.prog 22 #[.slice A n c] w fun e w' => e = .returned (.int .i64 (sumN ns : Nat)) ∧ w = w' := by
  have HN := Lib.hid h.len
  have HS := Lib.hid h
  have HW := Lib.hid hw
  have hn100 : n ≤ 100 := by rw [h.len]; exact hn
  clear h hw hn
  go_enter Try.func22, Try.ntmps22
  go_wp2_with fail
  go_loop [3, 4] (fun x i => ∃ k s : Nat, k ≤ n ∧ i = .int .i64 k ∧ x = .int .i64 s ∧ s = sumN (ns.take k) ∧ s ≤ 8 * k) (fun _ i => n - (intOf i).toNat)
  case atStart => exact ⟨0, 0, Nat.zero_le _, rfl, rfl, rfl, by omega⟩
  case round =>
    obtain ⟨k, s, hk, rfl, rfl, hs, hs8⟩ := hrel
    have HSum := Lib.hid hs
    clear hs
    by_cases hlt : k < n
    · have hkq : k < ns.length := by rw [← HN.out]; exact hlt
      obtain ⟨b, off, rfl, hb1, hc1⟩ := HS.out.pos (by omega)
      have y := hc1 k hkq
      have HU := Lib.hid (sumN_succ ns k hkq)
      have hm := HW.out k hkq
      generalize ns[k] = m at y HU hm
      have z1 : (0 : Int) ≤ (k : Int) := by omega
      have z2 : (k : Int) < (n : Int) := by omega
      clear hc1 hkq
      go_wp2
      go_round
      case rel => exact ⟨k + 1, s + m, by omega, by go_num, by go_num, by rw [HU.out, HSum.out], by omega⟩
      case measure => simp [intOf]; omega
    · have HK : Hid (s = sumN ns) := by
        have e : k = n := by omega
        rw [HSum.out, e, HN.out]
        exact congrArg sumN List.take_length
      go_wp2
      go_ret
      exact ⟨by rw [← HK.out]; rfl, rfl⟩
end Go.Proofs.Ytkgjebkjpcpoaaa
