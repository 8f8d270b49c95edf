/-
  A slice of stretches that reads as a list; the contract of span.Rising.
-/
import Derived.Test.YthhchaoeapnnoaaSpanB
namespace Go.Proofs.Ythhchaoeapnnoaa
open Go.RowKit

/-- The slice (A, n, c) reads as the stretches l; its cells lie below block B. -/
structure RS (w : World) (B : Nat) (A : Option Addr) (n c : Nat) (l : List (Nat × Nat)) : Prop where
  len : n = l.length
  cap : n ≤ c
  max : c ≤ maxLen
  small : ∀ j (_ : j < l.length), (l.getD j (0, 0)).1 < 18446744073709551616 ∧ (l.getD j (0, 0)).2 < 18446744073709551616
  pos : 0 < n → ∃ b off, A = some ⟨b, off, none⟩ ∧ b < B ∧ ∀ j (_ : j < l.length), w.cell? ⟨b, off + j * 2, none⟩ = some (.int .u64 ((l.getD j (0, 0)).1 : Nat)) ∧ w.cell? ⟨b, off + j * 2 + 1, none⟩ = some (.int .u64 ((l.getD j (0, 0)).2 : Nat))

theorem RS.keep {w w' : World} {B : Nat} {A : Option Addr} {n c : Nat} {l : List (Nat × Nat)} (h : RS w B A n c l) (hk : ∀ p : Addr, p.block < B → w'.cell? p = w.cell? p) : RS w' B A n c l :=
  ⟨h.len, h.cap, h.max, h.small, fun hn => by
    obtain ⟨b, off, e, hb, hc⟩ := h.pos hn
    exact ⟨b, off, e, hb, fun j hj => ⟨(hk ⟨b, _, none⟩ hb).trans (hc j hj).1, (hk ⟨b, _, none⟩ hb).trans (hc j hj).2⟩⟩⟩
theorem RS.grow {w w' : World} {B : Nat} {A : Option Addr} {n c : Nat} {l : List (Nat × Nat)} (h : RS w B A n c l) (hB : B ≤ w.heap.size) (hg : Grow w w') : RS w' B A n c l := h.keep fun _ hp => Below.cell hg (by omega)

theorem RS.at {w : World} {B b off n c : Nat} {l : List (Nat × Nat)} (h : RS w B (some ⟨b, off, none⟩) n c l) (hB : B ≤ w.heap.size) {j : Nat} (hj : j < l.length) {W : World} (hg : Grow w W) :
    W.cell? ⟨b, off + j * 2, none⟩ = some (.int .u64 ((l.getD j (0, 0)).1 : Nat)) ∧ W.cell? ⟨b, off + j * 2 + 1, none⟩ = some (.int .u64 ((l.getD j (0, 0)).2 : Nat)) := by
  obtain ⟨b', off', e, hb, hc⟩ := h.pos (by have := h.len; omega)
  cases e
  have hb' : b < w.heap.size := by omega
  rw [Below.cell (p := ⟨b, off + j * 2, none⟩) hg hb', Below.cell (p := ⟨b, off + j * 2 + 1, none⟩) hg hb']
  exact hc j hj

/-- Of l's stretches: may i stand ahead of k; do i and k meet. -/
def belowAt (l : List (Nat × Nat)) (i k : Nat) : Bool := belowN (l.getD i (0, 0)).1 (l.getD i (0, 0)).2 (l.getD k (0, 0)).1
def meetAt (l : List (Nat × Nat)) (i k : Nat) : Bool := meetN (l.getD i (0, 0)).1 (l.getD i (0, 0)).2 (l.getD k (0, 0)).1 (l.getD k (0, 0)).2
def Up (l : List (Nat × Nat)) : Prop := ∀ k, 0 < k → k < l.length → belowAt l (k - 1) k = true

theorem up_no {l : List (Nat × Nat)} {k : Nat} (h0 : 0 < k) (hk : k < l.length) (h : belowAt l (k - 1) k = false) : ¬ Up l := fun hu => by
  have := hu k h0 hk
  rw [h] at this
  cases this
theorem up_step {l : List (Nat × Nat)} {k : Nat} (hu : ∀ j, 0 < j → j < k → belowAt l (j - 1) j = true) (h : belowAt l (k - 1) k = true) : ∀ j, 0 < j → j < k + 1 → belowAt l (j - 1) j = true := fun j h1 h2 => by
  rcases Nat.lt_or_ge j k with h3 | h3
  · exact hu j h1 h3
  · obtain rfl : j = k := by omega
    exact h

/-- What Rising tells. -/
def Rose (l : List (Nat × Nat)) (w : World) (e : Ending) (w' : World) : Prop := ∃ r, e = .returned (.bool r) ∧ (r = true ↔ Up l) ∧ Grow w w'

set_option maxHeartbeats 800000 in
theorem rising_any (A : Option Addr) (n c : Nat) (l : List (Nat × Nat)) (B : Nat) (w : World) (h : RS w B A n c l) (hB : B ≤ w.heap.size) :
    Calls Try.prog 10 #[.slice A n c] w (Rose l w) := by
  have hc := h.cap
  have hm := h.max
  have HL := Lib.hid h.len
  unfold maxLen at hm
  by_cases hn : n ≤ 1
  · have HU := Lib.hid (show Up l by intro k h1 h2; rw [← h.len] at h2; omega)
    clear h
    go_enter Try.func10, Try.ntmps10
    go_wp2
    go_loop [3] (fun i => i = .int .i64 1) (fun _ => 0)
    case atStart => rfl
    case round =>
      obtain rfl := hrel
      go_wp2
      go_ret
      exact ⟨true, rfl, by simp [HU.out], Grow.refl _⟩
  · obtain ⟨b, off, rfl, hb, hcell⟩ := h.pos (by omega)
    have HC := Lib.hid hcell
    have HS := Lib.hid h.small
    have HB := Lib.hid (show b < w.heap.size by omega)
    clear h hcell hb
    go_enter Try.func10, Try.ntmps10
    go_wp2
    go_loopw [3] (fun i wr => ∃ k : Nat, 0 < k ∧ k ≤ n ∧ i = .int .i64 k ∧ (∀ j, 0 < j → j < k → belowAt l (j - 1) j = true) ∧ Grow w wr) (fun i _ => n - (intOf i).toNat)
    case atStart => exact ⟨1, by omega, by omega, rfl, fun j h1 h2 => by omega, Grow.refl _⟩
    case round =>
      obtain ⟨k, h0, hk, rfl, hup, hg⟩ := hrel
      have HG := Lib.hid hg
      have HU := Lib.hid hup
      clear hg hup
      by_cases hlt : k < n
      · obtain ⟨x, hx⟩ : ∃ x, x = l.getD (k - 1) (0, 0) := ⟨_, rfl⟩
        obtain ⟨y, hy⟩ : ∃ y, y = l.getD k (0, 0) := ⟨_, rfl⟩
        have hkl : k < l.length := by rw [← HL.out]; exact hlt
        have c0 : ∀ W, Grow wr.drew W → W.cell? ⟨b, off + (k - 1) * 2, none⟩ = some (.int .u64 (x.1 : Nat)) := fun W hW => by rw [Below.cell (HG.out.trans ((Grow.of_drew _).trans hW)) HB.out, hx]; exact (HC.out (k - 1) (by omega)).1
        have c1 : ∀ W, Grow wr.drew W → W.cell? ⟨b, off + (k - 1) * 2 + 1, none⟩ = some (.int .u64 (x.2 : Nat)) := fun W hW => by rw [Below.cell (HG.out.trans ((Grow.of_drew _).trans hW)) HB.out, hx]; exact (HC.out (k - 1) (by omega)).2
        have c2 : ∀ W, Grow wr.drew W → W.cell? ⟨b, off + k * 2, none⟩ = some (.int .u64 (y.1 : Nat)) := fun W hW => by rw [Below.cell (HG.out.trans ((Grow.of_drew _).trans hW)) HB.out, hy]; exact (HC.out k (by omega)).1
        have HE := Lib.hid (show belowAt l (k - 1) k = belowN x.1 x.2 y.1 by rw [hx, hy]; rfl)
        have sx := HS.out (k - 1) (by omega)
        rw [← hx] at sx
        clear hx hy
        go_wp2_with fail
        refine wp_region_chain [(0, true), (1, true), (2, true), (3, true), (4, true), (5, true), (6, true), (7, true), (8, true), (9, true), (10, false), (11, true)] (by kernel_rfl) (by kernel_rfl) (by kernel_rfl) ?_
        have HD : Hid (Grow w wr.drew) := HG.out.trans (Grow.of_drew _)
        generalize wr.drew = w1 at HD c0 c1 c2 ⊢
        have z1 : IntKind.i64.wrap ((k : Int) - 1) = (k : Int) - 1 := IntWalk.i64_in _ (by omega)
        have z2 : (1 : Int) ≤ (k : Int) := by omega
        have z3 : ((k : Int) - 1).toNat = k - 1 := by omega
        have z4 : (k : Int) - 1 < (n : Int) := by omega
        repeat (first | (refine chain_take rfl (by rfl) ?_ (fun W hG => ?_) ?_; rotate_left; (go_simp; rfl); simp only [Act.put, List.setIfInBounds_toArray, List.set_cons_zero, List.set_cons_succ]) | (refine chain_skip rfl (by rfl) ?_; simp only [Act.put, List.setIfInBounds_toArray, List.set_cons_zero, List.set_cons_succ]))
        refine chain_only rfl (by rfl) (fun K hK => ?_)
        go_simp
        refine (below_any _ _ _ _ sx.1 sx.2).mono ?_
        rintro e w2 ⟨rfl, hb⟩
        refine hK _ _ hb ?_
        have HF : Hid (Grow w w2) := HD.out.trans hb
        clear hK K hb z1 z2 z3 z4 c0 c1 c2 sx
        cases hr : belowN x.1 x.2 y.1
        · rw [hr] at HE
          clear hr
          repeat (first | (refine chain_take rfl (by rfl) ?_ (fun W hG => ?_) ?_; rotate_left; (go_simp; rfl); simp only [Act.put, List.setIfInBounds_toArray, List.set_cons_zero, List.set_cons_succ]) | (refine chain_skip rfl (by rfl) ?_; simp only [Act.put, List.setIfInBounds_toArray, List.set_cons_zero, List.set_cons_succ]))
          refine chain_done ?_
          go_wp2
          go_ret
          exact ⟨false, rfl, ⟨fun h => (by cases h), fun h => absurd h (up_no h0 hkl HE.out)⟩, HF.out⟩
        · rw [hr] at HE
          clear hr
          repeat (first | (refine chain_take rfl (by rfl) ?_ (fun W hG => ?_) ?_; rotate_left; (go_simp; rfl); simp only [Act.put, List.setIfInBounds_toArray, List.set_cons_zero, List.set_cons_succ]) | (refine chain_skip rfl (by rfl) ?_; simp only [Act.put, List.setIfInBounds_toArray, List.set_cons_zero, List.set_cons_succ]))
          refine chain_done ?_
          go_wp2
          go_roundw
          case rel => exact ⟨k + 1, by omega, by omega, by go_num, up_step HU.out HE.out, HF.out⟩
          case measure => simp [intOf]; omega
      · go_wp2
        go_ret
        exact ⟨true, rfl, ⟨fun _ j h1 h2 => HU.out j h1 (by have := HL.out; omega), fun _ => rfl⟩, HG.out⟩
end Go.Proofs.Ythhchaoeapnnoaa
