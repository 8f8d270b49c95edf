/-
  The contract of the head of layer 12's statements: the document's example holds.
-/
import Derived.Test.YthdgkhigekogiaaGnLook
namespace Go.Proofs.Ythdgkhigekogiaa
open Go.RowKit

/-- A new slice of names. -/
theorem SS.lit (w : World) (t : TypeId) (L : List Bs) (h : L.length ≤ maxLen) (h2 : ∀ s ∈ L, s.length ≤ maxLen) (cs : Array Value) (hcs : cs = (L.map fun s => Value.string (bstr s)).toArray) :
    SS (w.alloc (.cells cs t)) (w.alloc (.cells cs t)).heap.size (some ⟨w.heap.size, 0, none⟩) L.length L.length L := by
  subst hcs
  refine ⟨rfl, Nat.le_refl _, h, h2, fun _ => ⟨w.heap.size, 0, rfl, by simp, fun j hj => ?_⟩⟩
  rw [Nat.zero_add, World.cell?_alloc_mark]
  simp [hj]

def exG : Gn := ⟨1, 1, 1, 5, false, false, [[97]]⟩
theorem exG_ok : exG.Ok := ⟨by decide, by decide, by decide, by decide, by decide, by decide, by decide, by decide, fun i j _ _ => by show _ % 1 ≤ _ % 1; omega, by decide⟩
def exAll : List Bs := [[], [97]]
theorem exAll_at : ∀ i, i < exG.n → exAll.getD (exG.first + i) [] = exG.L.getD i [] := fun i hi => by
  have h1 : i < 1 := hi
  have : i = 0 := by omega
  subst this
  rfl
theorem fstA : exG.Fst [97] 1 := .inr ⟨0, by decide, rfl, rfl, fun x hx => absurd hx (by omega)⟩
theorem fstB : exG.Fst [98] 0 := .inl ⟨rfl, fun i hi => by
  have h1 : i < 1 := hi
  have : i = 0 := by omega
  subst this
  decide⟩

set_option maxHeartbeats 400000 in
theorem up12_any (w : World) : Calls Try.prog 4 #[] w fun e w' => e = .returned (.bool true) ∧ Grow w w' := by
  go_enter Try.func4, Try.ntmps4
  go_wp2_with fail
  have HS1 := Lib.hid (SS.lit w 9 exG.L (by decide) (by decide) #[.string { data := #[97] }] rfl)
  have HG1 : Hid (Grow w (w.alloc (.cells #[.string { data := #[97] }] 9))) := Grow.of_alloc _ _
  have HB := Lib.hid (build_any exG exG_ok (some ⟨w.heap.size, 0, none⟩) 1 1 _ HS1.out)
  refine (HB.out : Calls Try.prog 8 #[.agg #[.int .i64 1, .int .i64 1, .int .i64 1, .int .i64 5], .slice (some ⟨w.heap.size, 0, none⟩) 1 1, .agg #[.bool false, .bool false]] _ _).mono ?_
  rintro e w1 ⟨A, n, c, rfl, hr, hg⟩
  have HR1 := Lib.hid hr
  have HG2 : Hid (Grow w w1) := HG1.out.trans hg
  clear hr hg HS1 HG1 HB
  go_wp2_with fail
  have HS2 := Lib.hid (SS.lit w1 9 exAll (by decide) (by decide) #[.string { data := #[] }, .string { data := #[97] }] rfl)
  have HGa : Hid (Grow w1 (w1.alloc (.cells #[.string { data := #[] }, .string { data := #[97] }] 9))) := Grow.of_alloc _ _
  have HL := Lib.hid (lookup_any exG exG_ok A n c (some ⟨w1.heap.size, 0, none⟩) 2 2 exAll { data := #[97] } [97] _ (HR1.out.grow HGa.out) HS2.out rfl exAll_at rfl (by decide))
  refine (HL.out : Calls Try.prog 9 #[.slice A n c, .slice (some ⟨w1.heap.size, 0, none⟩) 2 2, .agg #[.bool false, .bool false], .string { data := #[97] }] _ _).mono ?_
  rintro e w2 ⟨v, rfl, hv, hg⟩
  obtain rfl : v = 1 := Gn.Fst.eq hv fstA
  have HR2 := Lib.hid ((HR1.out.grow HGa.out).grow hg)
  have HG3 : Hid (Grow w w2) := (HG2.out.trans HGa.out).trans hg
  clear hv hg HS2 HGa HL HR1 HG2
  go_wp2_with fail
  have HS3 := Lib.hid (SS.lit w2 9 exAll (by decide) (by decide) #[.string { data := #[] }, .string { data := #[97] }] rfl)
  have HGb : Hid (Grow w2 (w2.alloc (.cells #[.string { data := #[] }, .string { data := #[97] }] 9))) := Grow.of_alloc _ _
  have HL := Lib.hid (lookup_any exG exG_ok A n c (some ⟨w2.heap.size, 0, none⟩) 2 2 exAll { data := #[98] } [98] _ (HR2.out.grow HGb.out) HS3.out rfl exAll_at rfl (by decide))
  refine (HL.out : Calls Try.prog 9 #[.slice A n c, .slice (some ⟨w2.heap.size, 0, none⟩) 2 2, .agg #[.bool false, .bool false], .string { data := #[98] }] _ _).mono ?_
  rintro e w3 ⟨v, rfl, hv, hg⟩
  obtain rfl : v = 0 := Gn.Fst.eq hv fstB
  have HG4 : Hid (Grow w w3) := (HG3.out.trans HGb.out).trans hg
  clear hv hg HS3 HGb HL HR2 HG3
  go_wp2_with (go_at_call 10; refine (hash_any { data := #[] } [] _ rfl (by decide)).mono ?_; rintro e wb ⟨rfl, rfl⟩; rw [gnH_nil])
  go_ret
  exact ⟨rfl, HG4.out⟩
end Go.Proofs.Ythdgkhigekogiaa
