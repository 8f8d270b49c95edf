/-
  The contract of the helper Nums at two lists that are the same: 1.
-/
import Derived.Test.YthebemikhjglbaaRows
import Derived.Test.YthebemikhjglbaaPlPre
import Derived.BigQuiet
import Derived.Deep.QuietTactic
import Derived.Lib.Hide
namespace Go.Proofs.Ythebemikhjglbaa
open Go.RowKit

set_option maxHeartbeats 400000 in
theorem nums_same (A A' : Option Addr) (n c n' c' : Nat) (l : List Nat) (B B' : Nat) (w : World) (h : NS w B .u64 A n c l) (h' : NS w B' .u64 A' n' c' l) :
    Calls Try.prog 10 #[.slice A n c, .slice A' n' c'] w fun e w' => e = .returned (.int .i64 1) ∧ Grow w w' := by
  obtain rfl : n' = n := h'.len.trans h.len.symm
  have HS := Lib.hid h
  have HS' := Lib.hid h'
  have HL := Lib.hid h.len
  have hc := h.cap
  have hm := h.max
  have hc' := h'.cap
  have hm' := h'.max
  unfold maxLen at hm hm'
  clear h h'
  go_enter Try.func10, Try.ntmps10
  go_wp2
  go_loopw [5] (fun i wr => ∃ k m : Nat, k ≤ n' ∧ i = .int .i64 k ∧ wr = w.drewN m) (fun i _ => n' - (intOf i).toNat)
  case atStart => exact ⟨0, 0, Nat.zero_le _, rfl, rfl⟩
  case round =>
    obtain ⟨k, m, hk, rfl, rfl⟩ := hrel
    by_cases hlt : k < n'
    · obtain ⟨b, o, rfl, hb, hcell⟩ := HS.out.pos (by omega)
      obtain ⟨b', o', rfl, hb', hcell'⟩ := HS'.out.pos (by omega)
      have hkl : k < l.length := by rw [← HL.out]; exact hlt
      have q : ∀ m, (w.drewN m).cell? ⟨b, o + k, none⟩ = some (.int .u64 (l[k] : Int)) := fun m => hcell k hkl
      have q' : ∀ m, (w.drewN m).cell? ⟨b', o' + k, none⟩ = some (.int .u64 (l[k] : Int)) := fun m => hcell' k hkl
      clear hcell hcell' hb hb'
      generalize l[k] = x at q q'
      have hx : ((x : Int) != (x : Int)) = false := by simp
      clear hkl
      go_wp2
      go_quiet (fail)
      go_wp2
      go_roundw
      case rel => exact ⟨k + 1, _, by omega, by go_num, rfl⟩
      case measure => simp [intOf]; omega
    · go_wp2
      go_ret
      exact ⟨rfl, Grow.of_drewN _ _⟩
end Go.Proofs.Ythebemikhjglbaa
