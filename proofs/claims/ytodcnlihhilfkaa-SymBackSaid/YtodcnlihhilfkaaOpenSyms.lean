/-
  What came in as a slice of symbols, opened to a list.
-/
import Derived.Test.YtodcnlihhilfkaaOpenForm
import Derived.Test.YtodcnlihhilfkaaSyMath
import Derived.Test.YtodcnlihhilfkaaZs
import Derived.Deep.Slices
namespace Go.Proofs.Ytodcnlihhilfkaa
open Go.ChangeShapes Go.WideShapes Go.RowKit Go.Joins Go.Deep

section
variable {H : Type} {enc : TypeId × Value → H} {w : World} {base : Nat} {spare : Nat → Bool} {held : Bool}
theorem u16_of_cell {n : Nat} {v : Value} {y : DataW H × List MemPlace} (h : DataW.trod enc Try.prog w base spare held n 46 [v] = some y) : ∃ a : Nat, a < 65536 ∧ v = .int .u16 (a : Int) := by
  obtain ⟨x, hx, _, hw⟩ := DataW.trod_int Try.underlying46 h
  have := bounds_u16 hw
  injection hx with hx
  exact ⟨x.toNat, by omega, by rw [hx]; congr 1; omega⟩

instance : Inhabited Sy := ⟨sy0⟩

theorem sy_of_cells {n : Nat} {cs : List Value} {y : DataW H × List MemPlace} (h : DataW.trod enc Try.prog w base spare held n 49 cs = some y) : ∃ s : Sy, s.Ok ∧ cs = s.C.toList := by
  obtain ⟨xs, m, -, -, hl, hx, hf⟩ := DataW.trod_struct Try.underlying49 h
  have hx6 : xs.length = 6 := hx
  have hl6 : cs.length = 6 := hl.trans (by kernel_rfl)
  have e32 : Program.cellsOf Try.prog 40 = 1 := by kernel_rfl
  have e8 : Program.cellsOf Try.prog 5 = 1 := by kernel_rfl
  have e16 : Program.cellsOf Try.prog 46 = 1 := by kernel_rfl
  have e64 : Program.cellsOf Try.prog 47 = 1 := by kernel_rfl
  match cs, hl6, xs, hx6 with
  | [c0, c1, c2, c3, c4, c5], _, [x0, x1, x2, x3, x4, x5], _ =>
    have h0 : DataW.trod enc Try.prog w base spare held m 40 [c0] = some x0 := by simpa [e32] using hf 0 _ rfl
    have h1 : DataW.trod enc Try.prog w base spare held m 5 [c1] = some x1 := by simpa [e8] using hf 1 _ rfl
    have h2 : DataW.trod enc Try.prog w base spare held m 5 [c2] = some x2 := by simpa [e8] using hf 2 _ rfl
    have h3 : DataW.trod enc Try.prog w base spare held m 46 [c3] = some x3 := by simpa [e16] using hf 3 _ rfl
    have h4 : DataW.trod enc Try.prog w base spare held m 47 [c4] = some x4 := by simpa [e64] using hf 4 _ rfl
    have h5 : DataW.trod enc Try.prog w base spare held m 47 [c5] = some x5 := by simpa [e64] using hf 5 _ rfl
    obtain ⟨na, k0, rfl⟩ := u32_of_cell h0
    obtain ⟨inf, rfl⟩ := u8_of_cell h1
    obtain ⟨oth, rfl⟩ := u8_of_cell h2
    obtain ⟨shn, k3, rfl⟩ := u16_of_cell h3
    obtain ⟨val, k4, rfl⟩ := u64_of_cell h4
    obtain ⟨siz, k5, rfl⟩ := u64_of_cell h5
    exact ⟨⟨na, inf.toNat, oth.toNat, shn, val, siz⟩, ⟨k0, inf.toNat_lt, oth.toNat_lt, k3, k4, k5⟩, rfl⟩

theorem open_syms {r : Reach} {b0 : Nat} {v : Value} {d : DataW H} {p : List MemPlace} (hv : Value.okWide Try.prog w r b0 22 v) (h : DataW.Trod enc Try.prog w base spare held 22 v d p) :
    ∃ (A : Option Addr) (n c : Nat) (L : List Sy), v = .slice A n c ∧ ZS w w.heap.size 6 A n c (L.map Sy.C) ∧ ∀ s ∈ L, s.Ok := by
  obtain ⟨A, n, c, rfl⟩ := okWide_slice Try.underlying22 hv
  obtain ⟨fuel, hf⟩ := h
  rcases open_slice Try.underlying22 hf with ⟨hcs, _⟩ | ⟨a, len, cap, m, k, D, Pl, hcs, _, hl, hm, hmm, _, hx⟩
  · simp [Value.cells] at hcs
    obtain ⟨rfl, rfl, rfl⟩ := hcs
    exact ⟨none, 0, 0, [], rfl, ZS.nil, fun _ h => absurd h (by simp)⟩
  · simp [Value.cells] at hcs
    obtain ⟨rfl, rfl, rfl⟩ := hcs
    have hlm : n ≤ m := by rw [hmm]; split <;> omega
    have e6 : Program.cellsOf Try.prog 49 = 6 := by kernel_rfl
    rw [e6] at hx
    have each : ∀ i, i < n → ∃ s : Sy, s.Ok ∧ ∀ j u, s.C[j]? = some u → w.cell? ((a.add (i * 6)).add j) = some u := by
      intro i hi
      obtain ⟨cs, hc, ht⟩ := hx i (by omega)
      obtain ⟨_, hcl, hat⟩ := World.cells?_some hc
      obtain ⟨s, ok, rfl⟩ := sy_of_cells ht
      refine ⟨s, ok, fun j u hu => ?_⟩
      have hj : j < 6 := (Array.getElem?_eq_some_iff.1 hu).1
      rw [hat j hj]
      simpa using hu
    obtain ⟨q, hq⟩ := choose_lt each
    refine ⟨some a, n, c, (List.range n).map q, rfl, ⟨by simp, hl, hm, fun x hx => ?_, fun hp => ?_⟩, fun s hs => ?_⟩
    · obtain ⟨s, _, rfl⟩ := List.mem_map.1 hx
      rfl
    · obtain ⟨b, off, spot⟩ := a
      have h0 := (hq 0 hp).2 0 _ rfl
      have hspot : spot = none := by simpa [Addr.add] using World.cell?_spot h0
      subst hspot
      have e2 : ∀ i j, ((⟨b, off, none⟩ : Addr).add i).add j = ⟨b, off + i + j, none⟩ := by
        have e1 : ∀ (o i : Nat), (⟨b, o, none⟩ : Addr).add i = ⟨b, o + i, none⟩ := by intro o i; unfold Addr.add; split <;> simp_all
        intro i j
        rw [e1, e1]
      refine ⟨b, off, rfl, ?_, fun j hj i u hu => ?_⟩
      · rcases Nat.lt_or_ge b w.heap.size with h | h
        · exact h
        · simp [Addr.add, World.cell?, Array.getElem?_eq_none h] at h0
      · have hj' : j < n := by simpa using hj
        have h1 := (hq j hj').2 i u (by simpa using hu)
        rw [e2] at h1
        exact h1
    · obtain ⟨j, hj, rfl⟩ := List.mem_map.1 hs
      exact (hq j (by simpa using hj)).1
end
end Go.Proofs.Ytodcnlihhilfkaa
