/-
  The contract of the helper same at two lists of entries that are the same: 1.
-/
import Derived.Test.YtlnadlhajjcaoaaRows
import Derived.Test.YtlnadlhajjcaoaaDyFind
import Derived.Test.YtlnadlhajjcaoaaZs
import Derived.BigQuiet
import Derived.Deep.QuietTactic
import Derived.Lib.Hide
namespace Go.Proofs.Ytlnadlhajjcaoaa
open Go.RowKit

set_option maxHeartbeats 400000 in
theorem sameD_any (A A' : Option Addr) (n c n' c' : Nat) (L : List Dy) (B B' : Nat) (w : World) (h : ZS w B 2 A n c (L.map Dy.C)) (h' : ZS w B' 2 A' n' c' (L.map Dy.C)) :
    Calls Try.prog 14 #[.slice A n c, .slice A' n' c'] w fun e w' => e = .returned (.int .i64 1) ∧ Grow w w' := by
  obtain rfl : n' = n := h'.len.trans h.len.symm
  have HS := Lib.hid h
  have HS' := Lib.hid h'
  have HL : Hid (n' = L.length) := Lib.hid (by have := h.len; simpa using this)
  have hc := h.cap
  have hm := h.max
  have hc' := h'.cap
  have hm' := h'.max
  unfold maxLen at hm hm'
  clear h h'
  go_enter Try.func14, Try.ntmps14
  go_wp2
  go_loopw [5] (fun i wr => ∃ k m : Nat, k ≤ n' ∧ i = .int .i64 k ∧ wr = w.drewN m) (fun i _ => n' - (intOf i).toNat)
  case atStart => exact ⟨0, 0, Nat.zero_le _, rfl, rfl⟩
  case round =>
    obtain ⟨k, m, hk, rfl, rfl⟩ := hrel
    by_cases hlt : k < n'
    · obtain ⟨b, o, rfl, -, -⟩ := HS.out.pos (by omega)
      obtain ⟨b', o', rfl, -, -⟩ := HS'.out.pos (by omega)
      have hkl : k < L.length := by rw [← HL.out]; exact hlt
      obtain ⟨s, hs⟩ : ∃ s, L[k] = s := ⟨_, rfl⟩
      have q1 := HS.out.dy k hkl s hs
      have q2 := HS'.out.dy k hkl s hs
      obtain ⟨tag, val⟩ := s
      clear hs hkl
      obtain ⟨p0, p1⟩ := q1
      obtain ⟨r0, r1⟩ := q2
      have a0 : ∀ m, (w.drewN m).cell? ⟨b, o + k * 2, none⟩ = some (.int .u64 (tag : Int)) := fun _ => p0
      have a1 : ∀ m, (w.drewN m).cell? ⟨b, o + k * 2 + 1, none⟩ = some (.int .u64 (val : Int)) := fun _ => p1
      have b0 : ∀ m, (w.drewN m).cell? ⟨b', o' + k * 2, none⟩ = some (.int .u64 (tag : Int)) := fun _ => r0
      have b1 : ∀ m, (w.drewN m).cell? ⟨b', o' + k * 2 + 1, none⟩ = some (.int .u64 (val : Int)) := fun _ => r1
      clear p0 p1 r0 r1
      go_wp2
      go_quiet (fail)
      go_wp2
      go_roundw
      case rel => exact ⟨k + 1, _, by omega, by go_num, rfl⟩
      case measure => simp [intOf]; omega
    · go_wp2
      go_ret
      exact ⟨rfl, Grow.of_drewN _ _⟩
end Go.Proofs.Ytlnadlhajjcaoaa
