/-
  What came in as a slice of relocations, opened to a list.
-/
import Derived.Test.YtkgjebkjpcpoaaaOpenForm
import Derived.Test.YtkgjebkjpcpoaaaReMath
import Derived.Test.YtkgjebkjpcpoaaaZs
import Derived.Deep.Slices
namespace Go.Proofs.Ytkgjebkjpcpoaaa
open Go.ChangeShapes Go.WideShapes Go.RowKit Go.Joins Go.Deep

section
variable {H : Type} {enc : TypeId × Value → H} {w : World} {base : Nat} {spare : Nat → Bool} {held : Bool}
theorem i64_of_cell {n : Nat} {v : Value} {y : DataW H × List MemPlace} (h : DataW.trod enc Try.prog w base spare held n 2 [v] = some y) : ∃ a : Int, -9223372036854775808 ≤ a ∧ a ≤ 9223372036854775807 ∧ v = .int .i64 a := by
  obtain ⟨x, hx, _, hw⟩ := DataW.trod_int Try.underlying2 h
  have := wf_i64 hw
  injection hx with hx
  exact ⟨x, this.1, this.2, hx⟩

instance : Inhabited Re := ⟨re0⟩

theorem re_of_cells {n : Nat} {cs : List Value} {y : DataW H × List MemPlace} (h : DataW.trod enc Try.prog w base spare held n 47 cs = some y) : ∃ s : Re, s.Ok ∧ cs = s.C.toList := by
  obtain ⟨xs, m, -, -, hl, hx, hf⟩ := DataW.trod_struct Try.underlying47 h
  have hx4 : xs.length = 4 := hx
  have hl4 : cs.length = 4 := hl.trans (by kernel_rfl)
  have e32 : Program.cellsOf Try.prog 45 = 1 := by kernel_rfl
  have ei : Program.cellsOf Try.prog 2 = 1 := by kernel_rfl
  have e64 : Program.cellsOf Try.prog 44 = 1 := by kernel_rfl
  match cs, hl4, xs, hx4 with
  | [c0, c1, c2, c3], _, [x0, x1, x2, x3], _ =>
    have h0 : DataW.trod enc Try.prog w base spare held m 44 [c0] = some x0 := by simpa [e64] using hf 0 _ rfl
    have h1 : DataW.trod enc Try.prog w base spare held m 45 [c1] = some x1 := by simpa [e32] using hf 1 _ rfl
    have h2 : DataW.trod enc Try.prog w base spare held m 45 [c2] = some x2 := by simpa [e32] using hf 2 _ rfl
    have h3 : DataW.trod enc Try.prog w base spare held m 2 [c3] = some x3 := by simpa [ei] using hf 3 _ rfl
    obtain ⟨off, k0, rfl⟩ := u64_of_cell h0
    obtain ⟨sym, k1, rfl⟩ := u32_of_cell h1
    obtain ⟨ty, k2, rfl⟩ := u32_of_cell h2
    obtain ⟨add, k3, k4, rfl⟩ := i64_of_cell h3
    exact ⟨⟨off, sym, ty, add⟩, ⟨k0, k1, k2, k3, show add < 9223372036854775808 by omega⟩, rfl⟩

theorem open_rels {r : Reach} {b0 : Nat} {v : Value} {d : DataW H} {p : List MemPlace} (hv : Value.okWide Try.prog w r b0 22 v) (h : DataW.Trod enc Try.prog w base spare held 22 v d p) :
    ∃ (A : Option Addr) (n c : Nat) (L : List Re), v = .slice A n c ∧ ZS w w.heap.size 4 A n c (L.map Re.C) ∧ ∀ s ∈ L, s.Ok := by
  obtain ⟨A, n, c, rfl⟩ := okWide_slice Try.underlying22 hv
  obtain ⟨fuel, hf⟩ := h
  rcases open_slice Try.underlying22 hf with ⟨hcs, _⟩ | ⟨a, len, cap, m, k, D, Pl, hcs, _, hl, hm, hmm, _, hx⟩
  · simp [Value.cells] at hcs
    obtain ⟨rfl, rfl, rfl⟩ := hcs
    exact ⟨none, 0, 0, [], rfl, ZS.nil, fun _ h => absurd h (by simp)⟩
  · simp [Value.cells] at hcs
    obtain ⟨rfl, rfl, rfl⟩ := hcs
    have hlm : n ≤ m := by rw [hmm]; split <;> omega
    have e6 : Program.cellsOf Try.prog 47 = 4 := by kernel_rfl
    rw [e6] at hx
    have each : ∀ i, i < n → ∃ s : Re, s.Ok ∧ ∀ j u, s.C[j]? = some u → w.cell? ((a.add (i * 4)).add j) = some u := by
      intro i hi
      obtain ⟨cs, hc, ht⟩ := hx i (by omega)
      obtain ⟨_, hcl, hat⟩ := World.cells?_some hc
      obtain ⟨s, ok, rfl⟩ := re_of_cells ht
      refine ⟨s, ok, fun j u hu => ?_⟩
      have hj : j < 4 := (Array.getElem?_eq_some_iff.1 hu).1
      rw [hat j hj]
      simpa using hu
    obtain ⟨q, hq⟩ := choose_lt each
    refine ⟨some a, n, c, (List.range n).map q, rfl, ⟨by simp, hl, hm, fun x hx => ?_, fun hp => ?_⟩, fun s hs => ?_⟩
    · obtain ⟨s, _, rfl⟩ := List.mem_map.1 hx
      rfl
    · obtain ⟨b, off, spot⟩ := a
      have h0 := (hq 0 hp).2 0 _ rfl
      have hspot : spot = none := by simpa [Addr.add] using World.cell?_spot h0
      subst hspot
      have e2 : ∀ i j, ((⟨b, off, none⟩ : Addr).add i).add j = ⟨b, off + i + j, none⟩ := by
        have e1 : ∀ (o i : Nat), (⟨b, o, none⟩ : Addr).add i = ⟨b, o + i, none⟩ := by intro o i; unfold Addr.add; split <;> simp_all
        intro i j
        rw [e1, e1]
      refine ⟨b, off, rfl, ?_, fun j hj i u hu => ?_⟩
      · rcases Nat.lt_or_ge b w.heap.size with h | h
        · exact h
        · simp [Addr.add, World.cell?, Array.getElem?_eq_none h] at h0
      · have hj' : j < n := by simpa using hj
        have h1 := (hq j hj').2 i u (by simpa using hu)
        rw [e2] at h1
        exact h1
    · obtain ⟨j, hj, rfl⟩ := List.mem_map.1 hs
      exact (hq j (by simpa using hj)).1
end
end Go.Proofs.Ytkgjebkjpcpoaaa
