/-
  What came in as a slice of entries, opened to a list.
-/
import Derived.Test.YtlnadlhajjcaoaaOpenForm
import Derived.Test.YtlnadlhajjcaoaaDyMath
import Derived.Test.YtlnadlhajjcaoaaZs
import Derived.Deep.Slices
namespace Go.Proofs.Ytlnadlhajjcaoaa
open Go.ChangeShapes Go.WideShapes Go.RowKit Go.Joins Go.Deep

section
variable {H : Type} {enc : TypeId × Value → H} {w : World} {base : Nat} {spare : Nat → Bool} {held : Bool}
instance : Inhabited Dy := ⟨dy0⟩

theorem dy_of_cells {n : Nat} {cs : List Value} {y : DataW H × List MemPlace} (h : DataW.trod enc Try.prog w base spare held n 46 cs = some y) : ∃ s : Dy, s.Ok ∧ cs = s.C.toList := by
  obtain ⟨xs, m, -, -, hl, hx, hf⟩ := DataW.trod_struct Try.underlying46 h
  have hx2 : xs.length = 2 := hx
  have hl2 : cs.length = 2 := hl.trans (by kernel_rfl)
  have e64 : Program.cellsOf Try.prog 26 = 1 := by kernel_rfl
  match cs, hl2, xs, hx2 with
  | [c0, c1], _, [x0, x1], _ =>
    have h0 : DataW.trod enc Try.prog w base spare held m 26 [c0] = some x0 := by simpa [e64] using hf 0 _ rfl
    have h1 : DataW.trod enc Try.prog w base spare held m 26 [c1] = some x1 := by simpa [e64] using hf 1 _ rfl
    obtain ⟨tag, k0, rfl⟩ := u64_of_cell h0
    obtain ⟨val, k1, rfl⟩ := u64_of_cell h1
    exact ⟨⟨tag, val⟩, ⟨k0, k1⟩, rfl⟩

theorem open_dyns {r : Reach} {b0 : Nat} {v : Value} {d : DataW H} {p : List MemPlace} (hv : Value.okWide Try.prog w r b0 22 v) (h : DataW.Trod enc Try.prog w base spare held 22 v d p) :
    ∃ (A : Option Addr) (n c : Nat) (L : List Dy), v = .slice A n c ∧ ZS w w.heap.size 2 A n c (L.map Dy.C) ∧ ∀ s ∈ L, s.Ok := by
  obtain ⟨A, n, c, rfl⟩ := okWide_slice Try.underlying22 hv
  obtain ⟨fuel, hf⟩ := h
  rcases open_slice Try.underlying22 hf with ⟨hcs, _⟩ | ⟨a, len, cap, m, k, D, Pl, hcs, _, hl, hm, hmm, _, hx⟩
  · simp [Value.cells] at hcs
    obtain ⟨rfl, rfl, rfl⟩ := hcs
    exact ⟨none, 0, 0, [], rfl, ZS.nil, fun _ h => absurd h (by simp)⟩
  · simp [Value.cells] at hcs
    obtain ⟨rfl, rfl, rfl⟩ := hcs
    have hlm : n ≤ m := by rw [hmm]; split <;> omega
    have e6 : Program.cellsOf Try.prog 46 = 2 := by kernel_rfl
    rw [e6] at hx
    have each : ∀ i, i < n → ∃ s : Dy, s.Ok ∧ ∀ j u, s.C[j]? = some u → w.cell? ((a.add (i * 2)).add j) = some u := by
      intro i hi
      obtain ⟨cs, hc, ht⟩ := hx i (by omega)
      obtain ⟨_, hcl, hat⟩ := World.cells?_some hc
      obtain ⟨s, ok, rfl⟩ := dy_of_cells ht
      refine ⟨s, ok, fun j u hu => ?_⟩
      have hj : j < 2 := (Array.getElem?_eq_some_iff.1 hu).1
      rw [hat j hj]
      simpa using hu
    obtain ⟨q, hq⟩ := choose_lt each
    refine ⟨some a, n, c, (List.range n).map q, rfl, ⟨by simp, hl, hm, fun x hx => ?_, fun hp => ?_⟩, fun s hs => ?_⟩
    · obtain ⟨s, _, rfl⟩ := List.mem_map.1 hx
      rfl
    · obtain ⟨b, off, spot⟩ := a
      have h0 := (hq 0 hp).2 0 _ rfl
      have hspot : spot = none := by simpa [Addr.add] using World.cell?_spot h0
      subst hspot
      have e2 : ∀ i j, ((⟨b, off, none⟩ : Addr).add i).add j = ⟨b, off + i + j, none⟩ := by
        have e1 : ∀ (o i : Nat), (⟨b, o, none⟩ : Addr).add i = ⟨b, o + i, none⟩ := by intro o i; unfold Addr.add; split <;> simp_all
        intro i j
        rw [e1, e1]
      refine ⟨b, off, rfl, ?_, fun j hj i u hu => ?_⟩
      · rcases Nat.lt_or_ge b w.heap.size with h | h
        · exact h
        · simp [Addr.add, World.cell?, Array.getElem?_eq_none h] at h0
      · have hj' : j < n := by simpa using hj
        have h1 := (hq j hj').2 i u (by simpa using hu)
        rw [e2] at h1
        exact h1
    · obtain ⟨j, hj, rfl⟩ := List.mem_map.1 hs
      exact (hq j (by simpa using hj)).1
end
end Go.Proofs.Ytlnadlhajjcaoaa
