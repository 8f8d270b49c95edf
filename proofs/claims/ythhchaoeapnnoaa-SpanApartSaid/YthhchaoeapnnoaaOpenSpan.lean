/-
  What came in as a stretch, and as a slice of stretches, opened to numbers.
-/
import Derived.Test.YthhchaoeapnnoaaSpanC
import Derived.Deep.SlicePairs
import Derived.Lib.SmallJoins
import Derived.OpenShut
namespace Go.Proofs.Ythhchaoeapnnoaa
open Go.ChangeShapes Go.WideShapes Go.RowKit Go.Joins Go.Deep

section
variable {H : Type} {enc : TypeId × Value → H} {w : World} {base : Nat} {spare : Nat → Bool} {held : Bool}
theorem u64_of_cell {n : Nat} {v : Value} {y : DataW H × List MemPlace} (h : DataW.trod enc Try.prog w base spare held n 23 [v] = some y) : ∃ a : Nat, v = .int .u64 a ∧ a < 18446744073709551616 := by
  obtain ⟨x, hx, _, hw⟩ := DataW.trod_int Try.underlying23 h
  have hb := bounds_u64 hw
  injection hx with hx
  exact ⟨x.toNat, by rw [hx]; congr 1; omega, by omega⟩

theorem open_u64 {r : Reach} {b0 : Nat} {v : Value} {d : DataW H} {p : List MemPlace} (hv : Value.okWide Try.prog w r b0 23 v) (h : DataW.Trod enc Try.prog w base spare held 23 v d p) : ∃ a : Nat, v = .int .u64 a ∧ a < 18446744073709551616 := by
  obtain ⟨x, rfl, _, _, hw⟩ := open_int Try.underlying23 hv h
  have hb := bounds_u64 hw
  exact ⟨x.toNat, by congr 1; omega, by omega⟩

theorem open_span {r : Reach} {b0 : Nat} {v : Value} {d : DataW H} {p : List MemPlace} (hv : Value.okWide Try.prog w r b0 25 v) (h : DataW.Trod enc Try.prog w base spare held 25 v d p) :
    ∃ a n : Nat, v = .agg #[.int .u64 a, .int .u64 n] ∧ a < 18446744073709551616 ∧ n < 18446744073709551616 := by
  obtain ⟨v0, v1, y0, y1, k, rfl, _, _, h0, h1⟩ := open_agg2 Try.underlying25 (by kernel_rfl) (by kernel_rfl) hv h
  obtain ⟨a, rfl, ha⟩ := u64_of_cell h0
  obtain ⟨n, rfl, hn⟩ := u64_of_cell h1
  exact ⟨a, n, rfl, ha, hn⟩

theorem open_spans {r : Reach} {b0 : Nat} {v : Value} {d : DataW H} {p : List MemPlace} (hv : Value.okWide Try.prog w r b0 22 v) (h : DataW.Trod enc Try.prog w base spare held 22 v d p) :
    ∃ (A : Option Addr) (n c : Nat) (l : List (Nat × Nat)), v = .slice A n c ∧ RS w w.heap.size A n c l := by
  obtain ⟨A, n, c, rfl⟩ := okWide_slice Try.underlying22 hv
  obtain ⟨fuel, hf⟩ := h
  rcases open_slice_pairs Try.underlying22 Try.underlying25 (by kernel_rfl) rfl rfl (by kernel_rfl) (by kernel_rfl) hf with ⟨hcs, _⟩ | ⟨a, len, cap, m, k, V0, V1, D0, D1, P0, P1, hcs, _, hl, hm, hmm, _, hx⟩
  · simp [Value.cells] at hcs
    obtain ⟨rfl, rfl, rfl⟩ := hcs
    exact ⟨none, 0, 0, [], rfl, rfl, Nat.le_refl _, Nat.zero_le _, fun j hj => absurd hj (Nat.not_lt_zero _), fun h => absurd h (Nat.lt_irrefl 0)⟩
  · simp [Value.cells] at hcs
    obtain ⟨rfl, rfl, rfl⟩ := hcs
    have hlm : n ≤ m := by rw [hmm]; split <;> omega
    have each : ∀ i, i < n → ∃ q : Nat × Nat, w.cell? (a.add (i * 2)) = some (.int .u64 q.1) ∧ w.cell? (a.add (i * 2 + 1)) = some (.int .u64 q.2) ∧ q.1 < 18446744073709551616 ∧ q.2 < 18446744073709551616 := by
      intro i hi
      obtain ⟨c0, c1, t0, t1⟩ := hx i (by omega)
      obtain ⟨x, hx0, hx1⟩ := u64_of_cell t0
      obtain ⟨y, hy0, hy1⟩ := u64_of_cell t1
      exact ⟨(x, y), by rw [c0, hx0], by rw [c1, hy0], hx1, hy1⟩
    obtain ⟨q, hq⟩ := choose_lt each
    have hg : ∀ j, j < n → ((List.range n).map q).getD j (0, 0) = q j := by
      intro j hj
      simp [List.getD_eq_getElem?_getD, hj]
    refine ⟨some a, n, c, (List.range n).map q, rfl, by simp, hl, hm, fun j hj => ?_, fun hp => ?_⟩
    · have hj' : j < n := by simpa using hj
      rw [hg j hj']
      exact ⟨(hq j hj').2.2.1, (hq j hj').2.2.2⟩
    · obtain ⟨b, off, spot⟩ := a
      have h0 := (hq 0 hp).1
      have hspot : spot = none := by simpa [Addr.add] using World.cell?_spot h0
      subst hspot
      have e2 : ∀ j, (⟨b, off, none⟩ : Addr).add j = ⟨b, off + j, none⟩ := by intro j; unfold Addr.add; split <;> simp_all
      refine ⟨b, off, rfl, ?_, fun j hj => ?_⟩
      · rcases Nat.lt_or_ge b w.heap.size with h | h
        · exact h
        · simp [Addr.add, World.cell?, Array.getElem?_eq_none h] at h0
      · have hj' : j < n := by simpa using hj
        have h1 := hq j hj'
        rw [e2, e2] at h1
        rw [hg j hj', Nat.add_assoc]
        exact ⟨h1.1, h1.2.1⟩
end
end Go.Proofs.Ythhchaoeapnnoaa
