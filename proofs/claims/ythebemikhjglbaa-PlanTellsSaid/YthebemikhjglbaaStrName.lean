/-
  The contract of the document's own Name (layer 7): the same answer as strs.Get's.
-/
import Derived.Test.YthebemikhjglbaaStrGet
namespace Go.Proofs.Ythebemikhjglbaa
open Go.RowKit

/-- b[p:p+m], of no bytes too -/
theorem RB.piece {w : World} {B b off n c p m : Nat} {l : List UInt8} (h : RB w B (some ⟨b, off, none⟩) n c l) (hp : p + m ≤ n) : RB w B (some ⟨b, off + p, none⟩) m (c - p) ((l.drop p).take m) := by
  by_cases h0 : 0 < m
  · exact h.sub hp h0
  · have : m = 0 := by omega
    subst this
    have := h.max
    exact ⟨by simp, by omega, by omega, fun h => absurd h (by omega)⟩
theorem nameAt_hit {l : Bs} {off k : Nat} (hk : off ≤ k) (h0 : ∀ j, off ≤ j → j < k → l[j]? ≠ some 0) (h : l[k]? = some 0) : nameAt l off = some ((l.drop off).take (k - off)) := by
  refine cut0_at (fun j hj => ?_) ?_
  · rw [List.getElem?_drop]; exact h0 _ (by omega) (by omega)
  · rw [List.getElem?_drop, show off + (k - off) = k by omega]; exact h
theorem nameAt_miss {l : Bs} {off : Nat} (h0 : ∀ j, off ≤ j → j < l.length → l[j]? ≠ some 0) : nameAt l off = none := by
  refine cut0_none.2 fun b hb e => ?_
  subst e
  obtain ⟨j, hj⟩ := List.getElem?_of_mem hb
  rw [List.getElem?_drop] at hj
  exact h0 (off + j) (by omega) (List.getElem?_eq_some_iff.1 hj).1 hj

set_option maxHeartbeats 400000 in
theorem rName_any (A : Option Addr) (n c : Nat) (l : Bs) (off : Nat) (w : World) (h : RB w w.heap.size A n c l) (hof : off < 18446744073709551616) :
    Calls Try.prog 50 #[.slice A n c, .int .u64 off] w (GotN l off w) := by
  have HS := Lib.hid h
  have HL := Lib.hid h.len
  have hc := h.cap
  have hm := h.max
  unfold maxLen at hm
  clear h
  by_cases hfar : n ≤ off
  · have E := Lib.hid (nameAt_far (l := l) (off := off) (by rw [← HL.out]; exact hfar))
    go_enter Try.func50, Try.ntmps50
    go_wp2
    go_ret2
    exact gotN_none E.out
  · obtain ⟨b, o, rfl, hb, hcell⟩ := HS.out.pos (by omega)
    have HC := Lib.hid hcell
    clear hcell hb
    go_enter Try.func50, Try.ntmps50
    go_wp2
    go_loop [6] (fun i => ∃ k : Nat, off ≤ k ∧ k ≤ n ∧ i = .int .i64 k ∧ Hid (∀ j, off ≤ j → j < k → l[j]? ≠ some 0)) (fun i => n - (intOf i).toNat)
    case atStart => exact ⟨off, Nat.le_refl _, by omega, rfl, Lib.hid fun j h1 h2 => absurd h2 (by omega)⟩
    case round =>
      obtain ⟨k, hok, hk, rfl, HK⟩ := hrel
      by_cases hlt : k < n
      · have hkl : k < l.length := by rw [← HL.out]; exact hlt
        have q := HC.out k hkl
        have HG := Lib.hid (List.getElem?_eq_getElem hkl)
        generalize l[k] = u at q HG
        by_cases hu : u = 0
        · subst hu
          have hp := HS.out.piece (p := off) (m := k - off) (by omega)
          have hcv := hp.conv (Nat.le_refl _) w (Grow.refl _)
          have E := Lib.hid (nameAt_hit hok HK.out HG.out)
          have i2 : ¬ c = off := by omega
          have i3 : off ≤ k := by omega
          have i4 : k ≤ c := by omega
          rw [show (0 : UInt8).toNat = 0 from rfl] at q
          clear hkl HK HG hp
          go_wp2
          go_ret2
          exact gotN_some E.out
        · have hz : ((u.toNat : Int) == 0) = false := by
            rw [beq_eq_false_iff_ne]
            intro e
            exact hu (by rw [← UInt8.toNat_inj]; simpa using e)
          have HU := Lib.hid hu
          clear hkl hu
          go_wp2
          go_round
          case rel =>
            refine ⟨k + 1, by omega, by omega, by go_num, Lib.hid fun j h1 h2 => ?_⟩
            by_cases e : j < k
            · exact HK.out j h1 e
            · have : j = k := by omega
              subst this
              rw [HG.out]
              intro e2
              injection e2 with e2
              exact HU.out e2
          case measure => simp [intOf]; omega
      · have E := Lib.hid (nameAt_miss (l := l) (off := off) fun j h1 h2 => HK.out j h1 (by rw [← HL.out] at h2; omega))
        go_wp2
        go_ret2
        exact gotN_none E.out
end Go.Proofs.Ythebemikhjglbaa
