/-
  The contract of the document's own SameNotes at two lists of notes that are the same: true.
-/
import Derived.Test.YtheekcjpphcihaaRows
import Derived.Test.YtheekcjpphcihaaNtMem
import Derived.Test.YtheekcjpphcihaaConv
import Derived.BigQuiet
import Derived.Deep.QuietTactic
import Derived.Lib.Hide
namespace Go.Proofs.Ytheekcjpphcihaa
open Go.RowKit

set_option maxHeartbeats 1000000 in
theorem sameN_any (A A' : Option Addr) (n c n' c' : Nat) (L : List Nt) (w : World) (h : ZN w w.heap.size A n c L) (h' : ZN w w.heap.size A' n' c' L) :
    Calls Try.prog 10 #[.slice A n c, .slice A' n' c'] w fun e w' => e = .returned (.bool true) ∧ Grow w w' := by
  obtain rfl : n' = n := h'.len.trans h.len.symm
  have HS := Lib.hid h
  have HS' := Lib.hid h'
  have HL : Hid (n' = L.length) := Lib.hid (by have := h.len; simpa using this)
  have hc := h.cap
  have hm := h.max
  have hc' := h'.cap
  have hm' := h'.max
  unfold maxLen at hm hm'
  clear h h'
  go_enter Try.func10, Try.ntmps10
  go_wp2
  go_loopw [5] (fun i wr => ∃ k m : Nat, k ≤ n' ∧ i = .int .i64 k ∧ wr = w.drewN m) (fun i _ => n' - (intOf i).toNat)
  case atStart => exact ⟨0, 0, Nat.zero_le _, rfl, rfl⟩
  case round =>
    obtain ⟨k, m, hk, rfl, rfl⟩ := hrel
    by_cases hlt : k < n'
    · obtain ⟨b, o, rfl⟩ := HS.out.pos (by omega)
      obtain ⟨b', o', rfl⟩ := HS'.out.pos (by omega)
      have hkl : k < L.length := by rw [← HL.out]; exact hlt
      obtain ⟨A1, n1, c1, A2, n2, c2, -, ⟨p0, p1, p2⟩, r1, r2⟩ := HS.out.at hkl
      obtain ⟨A3, n3, c3, A4, n4, c4, -, ⟨q0, q1, q2⟩, r3, r4⟩ := HS'.out.at hkl
      generalize L[k] = s at p2 q2 r1 r2 r3 r4
      obtain ⟨nm, ds, ty⟩ := s
      simp only [] at p2 q2 r1 r2 r3 r4
      have a0 : ∀ m, (w.drewN m).cell? ⟨b, o + k * 3, none⟩ = some (.slice A1 n1 c1) := fun _ => p0
      have a1 : ∀ m, (w.drewN m).cell? ⟨b, o + k * 3 + 1, none⟩ = some (.slice A2 n2 c2) := fun _ => p1
      have a2 : ∀ m, (w.drewN m).cell? ⟨b, o + k * 3 + 2, none⟩ = some (.int .u32 (ty : Int)) := fun _ => p2
      have b0 : ∀ m, (w.drewN m).cell? ⟨b', o' + k * 3, none⟩ = some (.slice A3 n3 c3) := fun _ => q0
      have b1 : ∀ m, (w.drewN m).cell? ⟨b', o' + k * 3 + 1, none⟩ = some (.slice A4 n4 c4) := fun _ => q1
      have b2 : ∀ m, (w.drewN m).cell? ⟨b', o' + k * 3 + 2, none⟩ = some (.int .u32 (ty : Int)) := fun _ => q2
      have s1 := fun m => r1.conv (Nat.le_refl _) (w.drewN m) (Grow.of_drewN w m)
      have s2 := fun m => r2.conv (Nat.le_refl _) (w.drewN m) (Grow.of_drewN w m)
      have s3 := fun m => r3.conv (Nat.le_refl _) (w.drewN m) (Grow.of_drewN w m)
      have s4 := fun m => r4.conv (Nat.le_refl _) (w.drewN m) (Grow.of_drewN w m)
      clear p0 p1 p2 q0 q1 q2 r1 r2 r3 r4 hkl
      go_wp2
      go_quiet (fail)
      go_wp2
      go_roundw
      case rel => exact ⟨k + 1, _, by omega, by go_num, rfl⟩
      case measure => simp [intOf]; omega
    · go_wp2
      go_ret
      exact ⟨rfl, Grow.of_drewN _ _⟩
end Go.Proofs.Ytheekcjpphcihaa
