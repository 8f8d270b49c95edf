/-
  What came in as a slice of notes, opened to a list.
-/
import Derived.Test.YtheekcjpphcihaaOpenForm
import Derived.Test.YtheekcjpphcihaaNtMem
import Derived.Deep.Slices
namespace Go.Proofs.Ytheekcjpphcihaa
open Go.ChangeShapes Go.WideShapes Go.RowKit Go.Joins Go.Deep

section
variable {H : Type} {enc : TypeId × Value → H} {w : World} {base : Nat} {held : Bool}
instance : Inhabited Nt := ⟨⟨[], [], 0⟩⟩

theorem bytes_of_cell {n : Nat} {v : Value} {y : DataW H × List MemPlace} (h : DataW.trod enc Try.prog w base (fun _ => true) held n 25 [v] = some y) : ∃ (A : Option Addr) (n c : Nat) (l : List UInt8), v = .slice A n c ∧ RB w w.heap.size A n c l := by
  rcases open_ints Try.underlying25 Try.underlying5 (by kernel_rfl) h with ⟨hcs, _⟩ | ⟨a, len', cap', zs, hcs, _, hl, hm, hz, hx, hcell, hwz⟩
  · injection hcs with hcs
    exact ⟨none, 0, 0, [], hcs, RB.nil⟩
  · injection hcs with hcs
    simp only [if_true] at hz
    exact ⟨some a, len', cap', _, hcs, rb_of_cells w a len' cap' zs hl hm hz hcell hwz⟩

theorem nt_of_cells {n : Nat} {cs : List Value} {y : DataW H × List MemPlace} (h : DataW.trod enc Try.prog w base (fun _ => true) held n 41 cs = some y) : ∃ (s : Nt) (r : Array Value), s.typ < 4294967296 ∧ cs = r.toList ∧ NtR w w.heap.size r s := by
  obtain ⟨xs, m, -, -, hl, hx, hf⟩ := DataW.trod_struct Try.underlying41 h
  have hx3 : xs.length = 3 := hx
  have hl3 : cs.length = 3 := hl.trans (by kernel_rfl)
  have e8 : Program.cellsOf Try.prog 25 = 1 := by kernel_rfl
  have e32 : Program.cellsOf Try.prog 39 = 1 := by kernel_rfl
  match cs, hl3, xs, hx3 with
  | [c0, c1, c2], _, [x0, x1, x2], _ =>
    have h0 : DataW.trod enc Try.prog w base (fun _ => true) held m 25 [c0] = some x0 := by simpa [e8, e32] using hf 0 _ rfl
    have h1 : DataW.trod enc Try.prog w base (fun _ => true) held m 25 [c1] = some x1 := by simpa [e8, e32] using hf 1 _ rfl
    have h2 : DataW.trod enc Try.prog w base (fun _ => true) held m 39 [c2] = some x2 := by simpa [e8, e32] using hf 2 _ rfl
    obtain ⟨A, n, c, l, rfl, r1⟩ := bytes_of_cell h0
    obtain ⟨A', n', c', l', rfl, r2⟩ := bytes_of_cell h1
    obtain ⟨ty, k2, rfl⟩ := u32_of_cell h2
    exact ⟨⟨l, l', ty⟩, #[.slice A n c, .slice A' n' c', .int .u32 (ty : Int)], k2, rfl, A, n, c, A', n', c', rfl, r1, r2⟩

theorem NtR.size {w : World} {B : Nat} {r : Array Value} {s : Nt} (h : NtR w B r s) : r.size = 3 := by
  obtain ⟨A, n, c, A', n', c', rfl, -⟩ := h
  rfl

theorem open_notes {r : Reach} {b0 : Nat} {v : Value} {d : DataW H} {p : List MemPlace} (hv : Value.okWide Try.prog w r b0 22 v) (h : DataW.Trod enc Try.prog w base (fun _ => true) held 22 v d p) :
    ∃ (A : Option Addr) (n c : Nat) (L : List Nt), v = .slice A n c ∧ ZN w w.heap.size A n c L ∧ ∀ s ∈ L, s.typ < 4294967296 := by
  obtain ⟨A, n, c, rfl⟩ := okWide_slice Try.underlying22 hv
  obtain ⟨fuel, hf⟩ := h
  rcases open_slice Try.underlying22 hf with ⟨hcs, _⟩ | ⟨a, len, cap, m, k, D, Pl, hcs, _, hl, hm, hmm, _, hx⟩
  · simp [Value.cells] at hcs
    obtain ⟨rfl, rfl, rfl⟩ := hcs
    exact ⟨none, 0, 0, [], rfl, ZN.nil, fun _ h => absurd h (by simp)⟩
  · simp [Value.cells] at hcs
    obtain ⟨rfl, rfl, rfl⟩ := hcs
    have hlm : n ≤ m := by rw [hmm]; split <;> omega
    have e6 : Program.cellsOf Try.prog 41 = 3 := by kernel_rfl
    rw [e6] at hx
    have each : ∀ i, i < n → ∃ x : Nt × Array Value, x.1.typ < 4294967296 ∧ NtR w w.heap.size x.2 x.1 ∧ ∀ j u, x.2[j]? = some u → w.cell? ((a.add (i * 3)).add j) = some u := by
      intro i hi
      obtain ⟨cs, hc, ht⟩ := hx i (by omega)
      obtain ⟨_, hcl, hat⟩ := World.cells?_some hc
      obtain ⟨s, r, hty, rfl, hr⟩ := nt_of_cells ht
      refine ⟨⟨s, r⟩, hty, hr, fun j u hu => ?_⟩
      have hj : j < 3 := by
        have h1 : j < r.size := (Array.getElem?_eq_some_iff.1 hu).1
        rw [hr.size] at h1
        exact h1
      rw [hat j hj]
      simpa using hu
    obtain ⟨q, hq⟩ := choose_lt each
    refine ⟨some a, n, c, (List.range n).map (fun i => (q i).1), rfl, ⟨(List.range n).map (fun i => (q i).2), ⟨by simp, hl, hm, fun x hx => ?_, fun hp => ?_⟩, by simp, fun j h1 h2 => ?_⟩, fun s hs => ?_⟩
    · obtain ⟨j, hj, rfl⟩ := List.mem_map.1 hx
      exact (hq j (by simpa using hj)).2.1.size
    · obtain ⟨b, off, spot⟩ := a
      obtain ⟨A1, n1, c1, A2, n2, c2, e0, -⟩ := (hq 0 hp).2.1
      have h0 := (hq 0 hp).2.2 0 (.slice A1 n1 c1) (by rw [e0]; rfl)
      have hspot : spot = none := by simpa [Addr.add] using World.cell?_spot h0
      subst hspot
      have e2 : ∀ i j, ((⟨b, off, none⟩ : Addr).add i).add j = ⟨b, off + i + j, none⟩ := by
        have e1 : ∀ (o i : Nat), (⟨b, o, none⟩ : Addr).add i = ⟨b, o + i, none⟩ := by intro o i; unfold Addr.add; split <;> simp_all
        intro i j
        rw [e1, e1]
      refine ⟨b, off, rfl, ?_, fun j hj i u hu => ?_⟩
      · rcases Nat.lt_or_ge b w.heap.size with h | h
        · exact h
        · simp [Addr.add, World.cell?, Array.getElem?_eq_none h] at h0
      · have hj' : j < n := by simpa using hj
        have h1 := (hq j hj').2.2 i u (by simpa using hu)
        rw [e2] at h1
        exact h1
    · have hj' : j < n := by simpa using h1
      have := (hq j hj').2.1
      simpa using this
    · obtain ⟨j, hj, rfl⟩ := List.mem_map.1 hs
      exact (hq j (by simpa using hj)).1
end
end Go.Proofs.Ytheekcjpphcihaa
