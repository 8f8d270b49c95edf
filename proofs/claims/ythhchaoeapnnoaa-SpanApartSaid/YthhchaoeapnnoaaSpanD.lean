/-
  The contract of span.Clash.
-/
import Derived.Test.YthhchaoeapnnoaaSpanC
import Derived.OwnWalk
namespace Go.Proofs.Ythhchaoeapnnoaa
open Go.RowKit

/-- Of the stretches up to k none meets one ahead of it. -/
def Bare (l : List (Nat × Nat)) (k : Nat) : Prop := ∀ k', k' < k → ∀ i, i < k' → meetAt l i k' = false
/-- k is the first that meets one ahead of it, i the first that it meets. -/
def First (l : List (Nat × Nat)) (i k : Nat) : Prop := i < k ∧ k < l.length ∧ Bare l k ∧ (∀ i', i' < i → meetAt l i' k = false) ∧ meetAt l i k = true
/-- What Clash tells. -/
def Clashed (l : List (Nat × Nat)) (w : World) (e : Ending) (w' : World) : Prop :=
  ((e = .returned (.tuple #[.int .i64 0, .int .i64 0, .bool false]) ∧ Bare l l.length) ∨ ∃ i k : Nat, e = .returned (.tuple #[.int .i64 i, .int .i64 k, .bool true]) ∧ First l i k) ∧ Grow w w'

theorem no_step {l : List (Nat × Nat)} {j k : Nat} (h : ∀ i, i < j → meetAt l i k = false) (he : meetAt l j k = false) : ∀ i, i < j + 1 → meetAt l i k = false := fun i hi => by
  rcases Nat.lt_or_ge i j with h1 | h1
  · exact h i h1
  · obtain rfl : i = j := by omega
    exact he
theorem bare_step {l : List (Nat × Nat)} {k : Nat} (h : Bare l k) (he : ∀ i, i < k → meetAt l i k = false) : Bare l (k + 1) := fun k' hk => by
  rcases Nat.lt_or_ge k' k with h1 | h1
  · exact h k' h1
  · obtain rfl : k' = k := by omega
    exact he
theorem boxed {w W : World} {x y : Value} {t : TypeId} (h : Grow (w.alloc (.cells #[x, y] t)) W) : W.cell? ⟨w.heap.size, 0, none⟩ = some x ∧ W.cell? ⟨w.heap.size, 1, none⟩ = some y := by
  constructor <;> rw [Below.cell h (by simp)] <;> simp

set_option maxHeartbeats 800000 in
theorem clash_any (A : Option Addr) (n c : Nat) (l : List (Nat × Nat)) (B : Nat) (w : World) (h : RS w B A n c l) (hB : B ≤ w.heap.size) :
    Calls Try.prog 9 #[.slice A n c] w (Clashed l w) := by
  have hc := h.cap
  have hm := h.max
  have HL := Lib.hid h.len
  unfold maxLen at hm
  by_cases hn : n = 0
  · subst hn
    have HU := Lib.hid (show Bare l l.length by intro k h1; rw [← h.len] at h1; omega)
    clear h
    go_enter Try.func9, Try.ntmps9
    go_wp2
    go_loop [11] (fun i => i = .int .i64 0) (fun _ => 0)
    case atStart => rfl
    case round =>
      obtain rfl := hrel
      go_wp2
      go_ret3
      exact ⟨.inl ⟨rfl, HU.out⟩, Grow.refl _⟩
  · obtain ⟨b, off, rfl, hb, hcell⟩ := h.pos (by omega)
    have HC := Lib.hid hcell
    have HS := Lib.hid h.small
    have HB := Lib.hid (show b < w.heap.size by omega)
    clear h hcell hb
    go_enter Try.func9, Try.ntmps9
    go_wp2
    go_loopw [11] (fun i wr => ∃ k : Nat, k ≤ n ∧ i = .int .i64 k ∧ Bare l k ∧ Grow w wr) (fun i _ => n - (intOf i).toNat)
    case atStart => exact ⟨0, by omega, rfl, fun k h1 => by omega, Grow.refl _⟩
    case round =>
      obtain ⟨k, hk, rfl, hup, hg⟩ := hrel
      have HG := Lib.hid hg
      have HU := Lib.hid hup
      clear hg hup
      by_cases hlt : k < n
      · obtain ⟨y, hy⟩ : ∃ y, y = l.getD k (0, 0) := ⟨_, rfl⟩
        have hkl : k < l.length := by rw [← HL.out]; exact hlt
        have c0 : wr.cell? ⟨b, off + k * 2, none⟩ = some (.int .u64 (y.1 : Nat)) := by rw [Below.cell HG.out HB.out, hy]; exact (HC.out k (by omega)).1
        have c1 : wr.cell? ⟨b, off + k * 2 + 1, none⟩ = some (.int .u64 (y.2 : Nat)) := by rw [Below.cell HG.out HB.out, hy]; exact (HC.out k (by omega)).2
        have sy := HS.out k (by omega)
        rw [← hy] at sy
        have HY := Lib.hid hy
        clear hy
        go_wp2
        have HD : Hid (Grow w (wr.alloc (.cells #[.int .u64 (y.1 : Nat), .int .u64 (y.2 : Nat)] 25))) := HG.out.trans (Grow.of_alloc _ _)
        have HK : Hid (∀ W, Grow (wr.alloc (.cells #[.int .u64 (y.1 : Nat), .int .u64 (y.2 : Nat)] 25)) W → W.cell? ⟨wr.heap.size, 0, none⟩ = some (.int .u64 (y.1 : Nat)) ∧ W.cell? ⟨wr.heap.size, 1, none⟩ = some (.int .u64 (y.2 : Nat))) := Lib.hid fun W hW => boxed hW
        generalize wr.alloc (.cells #[.int .u64 (y.1 : Nat), .int .u64 (y.2 : Nat)] 25) = w1 at HD HK ⊢
        generalize wr.heap.size = g at HK ⊢
        clear HG c0 c1
        go_loopw [20] (fun i wq => ∃ j : Nat, j ≤ k ∧ i = .int .i64 j ∧ (∀ i', i' < j → meetAt l i' k = false) ∧ Grow w1 wq) (fun i _ => k - (intOf i).toNat)
        case atStart => exact ⟨0, by omega, rfl, fun k h1 => by omega, Grow.refl _⟩
        case round =>
          obtain ⟨j, hj, rfl, hno, hg⟩ := hrel
          have HN := Lib.hid hno
          have HG := Lib.hid hg
          clear hno hg
          by_cases hjk : j < k
          · obtain ⟨x, hx⟩ : ∃ x, x = l.getD j (0, 0) := ⟨_, rfl⟩
            have c0 : wr.cell? ⟨b, off + j * 2, none⟩ = some (.int .u64 (x.1 : Nat)) := by rw [Below.cell (HD.out.trans HG.out) HB.out, hx]; exact (HC.out j (by omega)).1
            have c1 : wr.cell? ⟨b, off + j * 2 + 1, none⟩ = some (.int .u64 (x.2 : Nat)) := by rw [Below.cell (HD.out.trans HG.out) HB.out, hx]; exact (HC.out j (by omega)).2
            have k0 : (wr.alloc (.cells #[.int .u64 (x.1 : Nat), .int .u64 (x.2 : Nat)] 25)).cell? ⟨g, 0, none⟩ = some (.int .u64 (y.1 : Nat)) := (HK.out _ (HG.out.trans (Grow.of_alloc _ _))).1
            have k1 : (wr.alloc (.cells #[.int .u64 (x.1 : Nat), .int .u64 (x.2 : Nat)] 25)).cell? ⟨g, 1, none⟩ = some (.int .u64 (y.2 : Nat)) := (HK.out _ (HG.out.trans (Grow.of_alloc _ _))).2
            have sx := HS.out j (by omega)
            rw [← hx] at sx
            have HE := Lib.hid (show meetAt l j k = meetN x.1 x.2 y.1 y.2 by rw [hx, HY.out]; rfl)
            clear hx
            go_wp2_with fail
            refine (meet_any _ _ _ _ _ sx.1 sx.2 sy.1 sy.2).mono ?_
            rintro e w2 ⟨rfl, hb⟩
            have HF : Hid (Grow w1 w2) := HG.out.trans ((Grow.of_alloc _ _).trans hb)
            clear hb c0 c1 k0 k1 sx sy
            cases hr : meetN x.1 x.2 y.1 y.2
            · rw [hr] at HE
              clear hr
              go_wp2
              go_roundw
              case rel => exact ⟨j + 1, by omega, by go_num, no_step HN.out HE.out, HF.out⟩
              case measure => simp [intOf]; omega
            · rw [hr] at HE
              clear hr
              go_wp2
              go_ret3
              exact ⟨.inr ⟨j, k, rfl, hjk, hkl, HU.out, HN.out, HE.out⟩, HD.out.trans HF.out⟩
          · obtain rfl : j = k := by omega
            go_wp2
            go_roundw
            case rel => exact ⟨j + 1, by omega, by go_num, bare_step HU.out HN.out, HD.out.trans HG.out⟩
            case measure => simp [intOf]; omega
      · go_wp2
        go_ret3
        obtain rfl : k = n := by omega
        exact ⟨.inl ⟨rfl, HL.out ▸ HU.out⟩, HG.out⟩
end Go.Proofs.Ythhchaoeapnnoaa
