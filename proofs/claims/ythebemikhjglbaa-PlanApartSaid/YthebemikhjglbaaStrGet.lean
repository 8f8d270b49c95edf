/-
  The contract of strs.Get: at any bytes and any place the name there, or none.
-/
import Derived.Test.YthebemikhjglbaaStrBidx
import Derived.Test.YthebemikhjglbaaConv
import Derived.Test.YthebemikhjglbaaPlPre
namespace Go.Proofs.Ythebemikhjglbaa
open Go.RowKit

/-- What is told of a name at a place. -/
def GotN (l : Bs) (off : Nat) (w : World) (e : Ending) (w' : World) : Prop :=
  e = .returned (.tuple #[.string (bstr ((nameAt l off).getD [])), .bool (nameAt l off).isSome]) ∧ w = w'

theorem gotN_none {l : Bs} {off : Nat} {w : World} (h : nameAt l off = none) : GotN l off w (.returned (.tuple #[.string { data := #[] }, .bool false])) w := by
  unfold GotN; rw [h]; exact ⟨rfl, rfl⟩
theorem gotN_some {l s : Bs} {off : Nat} {w : World} (h : nameAt l off = some s) : GotN l off w (.returned (.tuple #[.string ⟨s.toArray⟩, .bool true])) w := by
  unfold GotN; rw [h]; exact ⟨rfl, rfl⟩
theorem nameAt_far {l : Bs} {off : Nat} (h : l.length ≤ off) : nameAt l off = none := by unfold nameAt; rw [List.drop_of_length_le h]; rfl

set_option maxHeartbeats 400000 in
theorem sGet_any (A : Option Addr) (n c : Nat) (l : Bs) (off : Nat) (w : World) (h : RB w w.heap.size A n c l) (hof : off < 18446744073709551616) :
    Calls Try.prog 60 #[.slice A n c, .int .u64 off] w (GotN l off w) := by
  have HS := Lib.hid h
  have HL := Lib.hid h.len
  have hc := h.cap
  have hm := h.max
  unfold maxLen at hm
  clear h
  by_cases hfar : n ≤ off
  · have E := Lib.hid (nameAt_far (l := l) (off := off) (by rw [← HL.out]; exact hfar))
    go_enter Try.func60, Try.ntmps60
    go_wp2
    go_ret2
    exact gotN_none E.out
  · obtain ⟨b, o, rfl, hb, hcell⟩ := HS.out.pos (by omega)
    have hsub := HS.out.sub (p := off) (m := n - off) (by omega) (by omega)
    have e0 : (l.drop off).take (n - off) = l.drop off := by rw [List.take_of_length_le (by rw [List.length_drop, ← HL.out]; exact Nat.le_refl _)]
    rw [e0] at hsub
    have HB := Lib.hid hsub
    clear hcell hb hsub e0
    have i1 : (off : Int) ≤ n := by omega
    have i2 : ¬ c = off := by omega
    go_enter Try.func60, Try.ntmps60
    go_wp2_with fail
    refine (bidx_any _ _ _ _ _ _ HB.out).mono ?_
    rintro e w' ⟨rfl, rfl⟩
    rw [indexByte_cut]
    cases hcut : cut0 (l.drop off) with
    | none =>
      have E := Lib.hid hcut
      clear hcut
      go_wp2
      go_ret2
      exact gotN_none E.out
    | some s =>
      have E := Lib.hid hcut
      obtain ⟨h1, h2, h3⟩ := cut0_some hcut
      rw [List.length_drop, ← HL.out] at h1
      have hf := HB.out.first (m := s.length) (by omega)
      rw [h2] at hf
      have hcv := hf.conv (Nat.le_refl _) w (Grow.refl _)
      clear hcut h2 h3 hf
      dsimp only
      generalize s.length = k at h1 hcv ⊢
      have h4 : k ≤ c - off := by omega
      have h5 : ¬ ((k : Int) < 0) := by omega
      go_wp2
      go_ret2
      exact gotN_some E.out
end Go.Proofs.Ythebemikhjglbaa
