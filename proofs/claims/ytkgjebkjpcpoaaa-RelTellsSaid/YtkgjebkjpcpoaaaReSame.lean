/-
  The contract of the helper same at two lists of relocations that are the same: 1.
-/
import Derived.Test.YtkgjebkjpcpoaaaRows
import Derived.Test.YtkgjebkjpcpoaaaReMath
import Derived.Test.YtkgjebkjpcpoaaaZs
import Derived.BigQuiet
import Derived.Deep.QuietTactic
import Derived.Lib.Hide
namespace Go.Proofs.Ytkgjebkjpcpoaaa
open Go.RowKit

/-- The four cells of one of them. -/
theorem ZS.re {w : World} {B b off n c : Nat} {L : List Re} (h : ZS w B 4 (some ⟨b, off, none⟩) n c (L.map Re.C)) (k : Nat) (hk : k < L.length) (s : Re) (hs : L[k] = s) :
    w.cell? ⟨b, off + k * 4, none⟩ = some (.int .u64 (s.off : Int)) ∧ w.cell? ⟨b, off + k * 4 + 1, none⟩ = some (.int .u32 (s.sym : Int)) ∧ w.cell? ⟨b, off + k * 4 + 2, none⟩ = some (.int .u32 (s.ty : Int)) ∧
    w.cell? ⟨b, off + k * 4 + 3, none⟩ = some (.int .i64 s.add) := by
  have hn := h.len
  rw [List.length_map] at hn
  obtain ⟨b', off', e, _, hc⟩ := h.pos (by omega)
  injection e with e
  injection e with e1 e2
  subst e1; subst e2
  have hkm : k < (L.map Re.C).length := by rw [List.length_map]; exact hk
  have hg : (L.map Re.C)[k] = s.C := by rw [List.getElem_map, hs]
  have key := hc k hkm
  rw [hg] at key
  exact ⟨key 0 _ rfl, key 1 _ rfl, key 2 _ rfl, key 3 _ rfl⟩

set_option maxHeartbeats 400000 in
theorem sameR_any (A A' : Option Addr) (n c n' c' : Nat) (L : List Re) (B B' : Nat) (w : World) (h : ZS w B 4 A n c (L.map Re.C)) (h' : ZS w B' 4 A' n' c' (L.map Re.C)) :
    Calls Try.prog 13 #[.slice A n c, .slice A' n' c'] w fun e w' => e = .returned (.int .i64 1) ∧ Grow w w' := by
  obtain rfl : n' = n := h'.len.trans h.len.symm
  have HS := Lib.hid h
  have HS' := Lib.hid h'
  have HL : Hid (n' = L.length) := Lib.hid (by have := h.len; simpa using this)
  have hc := h.cap
  have hm := h.max
  have hc' := h'.cap
  have hm' := h'.max
  unfold maxLen at hm hm'
  clear h h'
  go_enter Try.func13, Try.ntmps13
  go_wp2
  go_loopw [5] (fun i wr => ∃ k m : Nat, k ≤ n' ∧ i = .int .i64 k ∧ wr = w.drewN m) (fun i _ => n' - (intOf i).toNat)
  case atStart => exact ⟨0, 0, Nat.zero_le _, rfl, rfl⟩
  case round =>
    obtain ⟨k, m, hk, rfl, rfl⟩ := hrel
    by_cases hlt : k < n'
    · obtain ⟨b, o, rfl, -, -⟩ := HS.out.pos (by omega)
      obtain ⟨b', o', rfl, -, -⟩ := HS'.out.pos (by omega)
      have hkl : k < L.length := by rw [← HL.out]; exact hlt
      obtain ⟨s, hs⟩ : ∃ s, L[k] = s := ⟨_, rfl⟩
      have q1 := HS.out.re k hkl s hs
      have q2 := HS'.out.re k hkl s hs
      obtain ⟨off, sym, ty, add⟩ := s
      clear hs hkl
      obtain ⟨p0, p1, p2, p3⟩ := q1
      obtain ⟨r0, r1, r2, r3⟩ := q2
      have a0 : ∀ m, (w.drewN m).cell? ⟨b, o + k * 4, none⟩ = some (.int .u64 (off : Int)) := fun _ => p0
      have a1 : ∀ m, (w.drewN m).cell? ⟨b, o + k * 4 + 1, none⟩ = some (.int .u32 (sym : Int)) := fun _ => p1
      have a2 : ∀ m, (w.drewN m).cell? ⟨b, o + k * 4 + 2, none⟩ = some (.int .u32 (ty : Int)) := fun _ => p2
      have a3 : ∀ m, (w.drewN m).cell? ⟨b, o + k * 4 + 3, none⟩ = some (.int .i64 add) := fun _ => p3
      have b0 : ∀ m, (w.drewN m).cell? ⟨b', o' + k * 4, none⟩ = some (.int .u64 (off : Int)) := fun _ => r0
      have b1 : ∀ m, (w.drewN m).cell? ⟨b', o' + k * 4 + 1, none⟩ = some (.int .u32 (sym : Int)) := fun _ => r1
      have b2 : ∀ m, (w.drewN m).cell? ⟨b', o' + k * 4 + 2, none⟩ = some (.int .u32 (ty : Int)) := fun _ => r2
      have b3 : ∀ m, (w.drewN m).cell? ⟨b', o' + k * 4 + 3, none⟩ = some (.int .i64 add) := fun _ => r3
      clear p0 p1 p2 p3 r0 r1 r2 r3
      go_wp2
      go_quiet (fail)
      go_wp2
      go_roundw
      case rel => exact ⟨k + 1, _, by omega, by go_num, rfl⟩
      case measure => simp [intOf]; omega
    · go_wp2
      go_ret
      exact ⟨rfl, Grow.of_drewN _ _⟩
end Go.Proofs.Ytkgjebkjpcpoaaa
