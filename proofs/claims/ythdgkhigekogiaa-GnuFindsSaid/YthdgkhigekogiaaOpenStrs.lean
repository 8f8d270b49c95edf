/-
  What came in as a slice of strings, opened to a list of names.
-/
import Derived.Test.YthdgkhigekogiaaRows
import Derived.Test.YthdgkhigekogiaaStrs
import Derived.SliceStrings
import Derived.OpenShut
namespace Go.Proofs.Ythdgkhigekogiaa
open Go.ChangeShapes Go.WideShapes Go.RowKit

section
variable {H : Type} {enc : TypeId × Value → H} {w : World} {base : Nat} {held : Bool}
theorem open_names {b0 : Nat} {r : Reach} {v : Value} {d : DataW H} {p : List MemPlace} (hv : Value.okWide Try.prog w r b0 24 v) (h : DataW.Trod enc Try.prog w base (fun _ => true) held 24 v d p) :
    ∃ (A : Option Addr) (n c : Nat) (L : List Bs), v = .slice A n c ∧ SS w w.heap.size A n c L := by
  obtain ⟨A, n, c, rfl⟩ := okWide_slice Try.underlying24 hv
  obtain ⟨fuel, hf⟩ := h
  rcases open_strings Try.underlying24 Try.underlying9 (by kernel_rfl) hf with ⟨hcs, _⟩ | ⟨a, len', cap', ss, hcs, _, hl, hm, hz, hx, hcell, hws⟩
  · simp [Value.cells] at hcs
    obtain ⟨rfl, rfl, rfl⟩ := hcs
    exact ⟨none, 0, 0, [], rfl, rfl, Nat.le_refl _, Nat.zero_le _, fun s hs => absurd hs (by simp), fun h => absurd h (by omega)⟩
  · simp [Value.cells] at hcs
    obtain ⟨rfl, rfl, rfl⟩ := hcs
    simp only [if_true] at hz
    refine ⟨some a, n, c, (ss.take n).map fun s => s.data.toList, rfl, by simp; omega, hl, hm, fun s hs => ?_, fun hp => ?_⟩
    · obtain ⟨S, hS, rfl⟩ := List.mem_map.1 hs
      have := hws S (List.mem_of_mem_take hS)
      have e : S.size = S.data.toList.length := rfl
      rw [← e]
      exact this
    · obtain ⟨b, off, spot⟩ := a
      have h0 := hcell 0 (by omega)
      have hspot : spot = none := by simpa [Addr.add] using World.cell?_spot h0
      subst hspot
      refine ⟨b, off, rfl, ?_, fun j hj => ?_⟩
      · rcases Nat.lt_or_ge b w.heap.size with h | h
        · exact h
        · simp [Addr.add, World.cell?, Array.getElem?_eq_none h] at h0
      · have hj' : j < n := by simp at hj; omega
        have e2 : (⟨b, off, none⟩ : Addr).add j = ⟨b, off + j, none⟩ := by unfold Addr.add; split <;> simp_all
        rw [← e2, hcell j (by omega)]
        have hjz : j < ss.length := by omega
        congr 2
        rw [List.getD_eq_getElem?_getD, List.getElem?_eq_getElem hjz, List.getD_eq_getElem?_getD, List.getElem?_map, List.getElem?_take_of_lt hj', List.getElem?_eq_getElem hjz]
        simp [bstr_of]
end
end Go.Proofs.Ythdgkhigekogiaa
