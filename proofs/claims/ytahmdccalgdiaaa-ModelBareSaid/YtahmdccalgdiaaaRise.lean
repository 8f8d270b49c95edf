/-
  Contracts of span.last, span.below and span.Rising: what each returns, at a slice of stretches as rows of two cells. (Stage 2's own texts, XSpanA to XSpanD, hold the same for that stage's seat: the two are not imported together.)
-/
import Derived.Test.YtahmdccalgdiaaaRows
import Derived.Test.YtahmdccalgdiaaaZs
import Derived.Test.YtahmdccalgdiaaaRet
namespace Go.Proofs.Ytahmdccalgdiaaa
open Go.RowKit

/-- The greatest number of a stretch that has one. -/
def lastN (a n : Nat) : Nat := min (a + n - 1) 18446744073709551615
/-- Whether a stretch may stand ahead of one from v on. -/
def belowN (a n v : Nat) : Bool := if n = 0 then decide (a ≤ v) else decide (lastN a n < v)

theorem last_any (a n : Nat) (w : World) (ha : a < 18446744073709551616) (hn : n < 18446744073709551616) (h0 : 0 < n) :
    Calls Try.prog 42 #[.agg #[.int .u64 a, .int .u64 n]] w fun e w' => e = .returned (.int .u64 (lastN a n : Nat)) ∧ Grow w w' := by
  have z1 : IntKind.u64.wrap ((n : Int) - 1) = (n : Int) - 1 := by rw [IntKind.wrap_u64]; omega
  have z2 : IntKind.u64.wrap (18446744073709551615 - (a : Int)) = 18446744073709551615 - (a : Int) := by rw [IntKind.wrap_u64]; omega
  by_cases h : (n : Int) - 1 ≤ 18446744073709551615 - (a : Int)
  · have E := Lib.hid (show (lastN a n : Int) = (a : Int) + (n - 1) by unfold lastN; omega)
    go_enter Try.func42, Try.ntmps42
    go_wp2
    go_ret
    exact ⟨ret_int E.out.symm, Grow.of_alloc _ _⟩
  · have E := Lib.hid (show (lastN a n : Int) = (a : Int) + (18446744073709551615 - (a : Int)) by unfold lastN; omega)
    go_enter Try.func42, Try.ntmps42
    go_wp2
    go_ret
    exact ⟨ret_int E.out.symm, Grow.of_alloc _ _⟩

theorem below_any (a n v : Nat) (w : World) (ha : a < 18446744073709551616) (hn : n < 18446744073709551616) :
    Calls Try.prog 36 #[.agg #[.int .u64 a, .int .u64 n], .int .u64 v] w fun e w' => e = .returned (.bool (belowN a n v)) ∧ Grow w w' := by
  by_cases n0 : n = 0
  · subst n0
    have E := Lib.hid (show belowN a 0 v = decide (a ≤ v) by simp [belowN])
    go_enter Try.func36, Try.ntmps36
    go_wp2
    go_ret
    exact ⟨ret_bool (by simp [E.out]), Grow.of_alloc _ _⟩
  · have E := Lib.hid (show belowN a n v = decide (lastN a n < v) by simp [belowN, n0])
    have d1 : ((n : Int) == 0) = false := by simp [n0]
    have hn0 := Lib.hid (Nat.pos_of_ne_zero n0)
    clear n0
    go_enter Try.func36, Try.ntmps36
    go_wp2_with (go_at_call 42; refine (last_any _ _ _ ha hn hn0.out).mono ?_; rintro e w' ⟨rfl, hb⟩; have HB := Lib.hid hb; clear hb)
    go_ret
    exact ⟨ret_bool (by simp [E.out]), (Grow.of_alloc _ _).trans HB.out⟩

/-- The cells of a stretch. -/
def spC (x : Nat × Nat) : Array Value := #[.int .u64 (x.1 : Nat), .int .u64 (x.2 : Nat)]
def belowAt (l : List (Nat × Nat)) (i k : Nat) : Bool := belowN (l.getD i (0, 0)).1 (l.getD i (0, 0)).2 (l.getD k (0, 0)).1
/-- Whether stretches rise. -/
def Up (l : List (Nat × Nat)) : Prop := ∀ k, 0 < k → k < l.length → belowAt l (k - 1) k = true
def rises (l : List (Nat × Nat)) : Bool := (List.range l.length).all fun k => decide (k = 0) || belowAt l (k - 1) k
theorem rises_iff (l : List (Nat × Nat)) : rises l = true ↔ Up l := by
  unfold rises Up
  rw [List.all_eq_true]
  constructor
  · intro h k h0 hk
    have := h k (by simpa using hk)
    rw [Bool.or_eq_true, decide_eq_true_iff] at this
    rcases this with h | h
    · omega
    · exact h
  · intro h k hk
    rw [Bool.or_eq_true, decide_eq_true_iff]
    rcases Nat.eq_zero_or_pos k with h0 | h0
    · exact .inl h0
    · exact .inr (h k h0 (by simpa using hk))

theorem up_no {l : List (Nat × Nat)} {k : Nat} (h0 : 0 < k) (hk : k < l.length) (h : belowAt l (k - 1) k = false) : rises l = false := by
  cases hr : rises l
  · rfl
  · have := (rises_iff l).1 hr k h0 hk
    rw [h] at this
    cases this
theorem up_step {l : List (Nat × Nat)} {k : Nat} (hu : ∀ j, 0 < j → j < k → belowAt l (j - 1) j = true) (h : belowAt l (k - 1) k = true) : ∀ j, 0 < j → j < k + 1 → belowAt l (j - 1) j = true := fun j h1 h2 => by
  rcases Nat.lt_or_ge j k with h3 | h3
  · exact hu j h1 h3
  · obtain rfl : j = k := by omega
    exact h

set_option maxHeartbeats 800000 in
theorem rising_any (A : Option Addr) (n c : Nat) (l : List (Nat × Nat)) (w : World) (h : ZS w w.heap.size 2 A n c (l.map spC)) (hs : ∀ x ∈ l, x.1 < 18446744073709551616 ∧ x.2 < 18446744073709551616) :
    Calls Try.prog 26 #[.slice A n c] w fun e w' => e = .returned (.bool (rises l)) ∧ Grow w w' := by
  have hc := h.cap
  have hm := h.max
  have hlen : n = l.length := by have := h.len; simpa using this
  have HL := Lib.hid hlen
  unfold maxLen at hm
  by_cases hn : n ≤ 1
  · have HU := Lib.hid (show rises l = true from (rises_iff l).2 (by intro k h1 h2; rw [← hlen] at h2; omega))
    clear h hlen
    go_enter Try.func26, Try.ntmps26
    go_wp2
    go_loop [3] (fun i => i = .int .i64 1) (fun _ => 0)
    case atStart => rfl
    case round =>
      obtain rfl := hrel
      go_wp2
      go_ret
      exact ⟨ret_bool HU.out.symm, Grow.refl _⟩
  · obtain ⟨b, off, rfl, hb, hcell⟩ := h.pos (by omega)
    have hat : ∀ j (_ : j < l.length), w.cell? ⟨b, off + j * 2, none⟩ = some (.int .u64 ((l.getD j (0, 0)).1 : Nat)) ∧ w.cell? ⟨b, off + j * 2 + 1, none⟩ = some (.int .u64 ((l.getD j (0, 0)).2 : Nat)) := by
      intro j hj
      have e : l.getD j (0, 0) = l[j] := by simp [List.getD_eq_getElem?_getD, hj]
      rw [e]
      exact ⟨hcell j (by simpa using hj) 0 _ (by simp [spC]), hcell j (by simpa using hj) 1 _ (by simp [spC])⟩
    have hsm : ∀ j (_ : j < l.length), (l.getD j (0, 0)).1 < 18446744073709551616 ∧ (l.getD j (0, 0)).2 < 18446744073709551616 := by
      intro j hj
      have e : l.getD j (0, 0) = l[j] := by simp [List.getD_eq_getElem?_getD, hj]
      rw [e]
      exact hs _ (List.getElem_mem hj)
    have HC := Lib.hid hat
    have HS := Lib.hid hsm
    have HB := Lib.hid (show b < w.heap.size by omega)
    clear h hcell hb hat hsm hs hlen
    go_enter Try.func26, Try.ntmps26
    go_wp2
    go_loopw [3] (fun i wr => ∃ k : Nat, 0 < k ∧ k ≤ n ∧ i = .int .i64 k ∧ (∀ j, 0 < j → j < k → belowAt l (j - 1) j = true) ∧ Grow w wr) (fun i _ => n - (intOf i).toNat)
    case atStart => exact ⟨1, by omega, by omega, rfl, fun j h1 h2 => by omega, Grow.refl _⟩
    case round =>
      obtain ⟨k, h0, hk, rfl, hup, hg⟩ := hrel
      have HG := Lib.hid hg
      have HU := Lib.hid hup
      clear hg hup
      by_cases hlt : k < n
      · obtain ⟨x, hx⟩ : ∃ x, x = l.getD (k - 1) (0, 0) := ⟨_, rfl⟩
        obtain ⟨y, hy⟩ : ∃ y, y = l.getD k (0, 0) := ⟨_, rfl⟩
        have hkl : k < l.length := by rw [← HL.out]; exact hlt
        have c0 : ∀ W, Grow wr.drew W → W.cell? ⟨b, off + (k - 1) * 2, none⟩ = some (.int .u64 (x.1 : Nat)) := fun W hW => by rw [Below.cell (HG.out.trans ((Grow.of_drew _).trans hW)) HB.out, hx]; exact (HC.out (k - 1) (by omega)).1
        have c1 : ∀ W, Grow wr.drew W → W.cell? ⟨b, off + (k - 1) * 2 + 1, none⟩ = some (.int .u64 (x.2 : Nat)) := fun W hW => by rw [Below.cell (HG.out.trans ((Grow.of_drew _).trans hW)) HB.out, hx]; exact (HC.out (k - 1) (by omega)).2
        have c2 : ∀ W, Grow wr.drew W → W.cell? ⟨b, off + k * 2, none⟩ = some (.int .u64 (y.1 : Nat)) := fun W hW => by rw [Below.cell (HG.out.trans ((Grow.of_drew _).trans hW)) HB.out, hy]; exact (HC.out k (by omega)).1
        have HE := Lib.hid (show belowAt l (k - 1) k = belowN x.1 x.2 y.1 by rw [hx, hy]; rfl)
        have sx := HS.out (k - 1) (by omega)
        rw [← hx] at sx
        clear hx hy
        go_wp2_with fail
        refine wp_region_chain [(0, true), (1, true), (2, true), (3, true), (4, true), (5, true), (6, true), (7, true), (8, true), (9, true), (10, false), (11, true)] (by kernel_rfl) (by kernel_rfl) (by kernel_rfl) ?_
        have HD : Hid (Grow w wr.drew) := HG.out.trans (Grow.of_drew _)
        generalize wr.drew = w1 at HD c0 c1 c2 ⊢
        have z1 : IntKind.i64.wrap ((k : Int) - 1) = (k : Int) - 1 := IntWalk.i64_in _ (by omega)
        have z2 : (1 : Int) ≤ (k : Int) := by omega
        have z3 : ((k : Int) - 1).toNat = k - 1 := by omega
        have z4 : (k : Int) - 1 < (n : Int) := by omega
        repeat (first | (refine chain_take rfl (by rfl) ?_ (fun W hG => ?_) ?_; rotate_left; (go_simp; rfl); simp only [Act.put, List.setIfInBounds_toArray, List.set_cons_zero, List.set_cons_succ]) | (refine chain_skip rfl (by rfl) ?_; simp only [Act.put, List.setIfInBounds_toArray, List.set_cons_zero, List.set_cons_succ]))
        refine chain_only rfl (by rfl) (fun K hK => ?_)
        go_simp
        refine (below_any _ _ _ _ sx.1 sx.2).mono ?_
        rintro e w2 ⟨rfl, hb⟩
        refine hK _ _ hb ?_
        have HF : Hid (Grow w w2) := HD.out.trans hb
        clear hK K hb z1 z2 z3 z4 c0 c1 c2 sx
        cases hr : belowN x.1 x.2 y.1
        · rw [hr] at HE
          clear hr
          repeat (first | (refine chain_take rfl (by rfl) ?_ (fun W hG => ?_) ?_; rotate_left; (go_simp; rfl); simp only [Act.put, List.setIfInBounds_toArray, List.set_cons_zero, List.set_cons_succ]) | (refine chain_skip rfl (by rfl) ?_; simp only [Act.put, List.setIfInBounds_toArray, List.set_cons_zero, List.set_cons_succ]))
          refine chain_done ?_
          go_wp2
          go_ret
          exact ⟨ret_bool (up_no h0 hkl HE.out).symm, HF.out⟩
        · rw [hr] at HE
          clear hr
          repeat (first | (refine chain_take rfl (by rfl) ?_ (fun W hG => ?_) ?_; rotate_left; (go_simp; rfl); simp only [Act.put, List.setIfInBounds_toArray, List.set_cons_zero, List.set_cons_succ]) | (refine chain_skip rfl (by rfl) ?_; simp only [Act.put, List.setIfInBounds_toArray, List.set_cons_zero, List.set_cons_succ]))
          refine chain_done ?_
          go_wp2
          go_roundw
          case rel => exact ⟨k + 1, by omega, by omega, by go_num, up_step HU.out HE.out, HF.out⟩
          case measure => simp [intOf]; omega
      · have HU2 := Lib.hid (show rises l = true from (rises_iff l).2 fun j h1 h2 => HU.out j h1 (by have := HL.out; omega))
        go_wp2
        go_ret
        exact ⟨ret_bool HU2.out.symm, HG.out⟩
end Go.Proofs.Ytahmdccalgdiaaa
