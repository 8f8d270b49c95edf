/-
  The contract of the head of layer 3's statements: the document's example holds.
-/
import Derived.Test.YthlgdpofhjclhaaIdentRef
namespace Go.Proofs.Ythlgdpofhjclhaa
open Go.RowKit

theorem told_nil : Told [] 2 0 := .inr (.inl ⟨rfl, rfl, fun _ h => absurd h (Nat.not_lt_zero _), by decide⟩)

/-- Bytes whose first seven are those of a file. -/
theorem clean_of {l : List UInt8} {wide big : Bool} {o a : UInt8} (h : ∀ j (hj : j < l.length), j < 7 → l[j] = (idL wide big o a).getD j 0) : Clean l 7 := fun j hj hlt => by
  rw [h j hj hlt]
  match j, hlt with
  | 0, _ => simp [idL, faultN]
  | 1, _ => simp [idL, faultN]
  | 2, _ => simp [idL, faultN]
  | 3, _ => simp [idL, faultN]
  | 4, _ => cases wide <;> simp [idL, faultN, two]
  | 5, _ => cases big <;> simp [idL, faultN, two]
  | 6, _ => simp [idL, faultN]

theorem told_idL (wide big : Bool) (o a : UInt8) : Told (idL wide big o a) 0 0 :=
  .inl ⟨rfl, rfl, clean_of fun j hj _ => by rw [List.getD_eq_getElem?_getD, List.getElem?_eq_getElem hj]; rfl, by simp [idL]⟩

theorem idOf_idL (wide big : Bool) (o a : UInt8) : idOf (idL wide big o a) 0 = idV wide big o a := by
  cases wide <;> cases big <;> rfl

theorem Err.grow {w w' : World} {e : Value} {c p : Nat} (h : Err w e c p) (hg : Grow w w') : Err w' e c p := by
  rcases h with h | ⟨h0, b, h1, h2, h3, h4⟩
  · exact .inl h
  · exact .inr ⟨h0, b, h1, Nat.lt_of_lt_of_le h2 hg.size, by rw [hg.cell h2]; exact h3, by rw [hg.cell h2]; exact h4⟩

theorem Err.nil {w : World} {e : Value} {p : Nat} (h : Err w e 0 p) : e = .nilIface := by
  rcases h with h | ⟨h0, _⟩
  · exact h.2.2
  · omega

/-- What Put tells reads as its bytes. -/
theorem RB.put (w : World) (ob : Obj) (wide big : Bool) (o a : UInt8) (t : TypeId) : RB ((w.alloc ob).alloc (.cells (idC wide big o a) t)) (w.heap.size + 2) (some ⟨w.heap.size + 1, 0, none⟩) 16 16 (idL wide big o a) := by
  have h := RB.lit (w.alloc ob) t (idL wide big o a) (by simp [idL, maxLen])
  simpa [idC, idL] using h

set_option maxHeartbeats 400000 in
theorem up3_any (w : World) : Calls Try.prog 5 #[] w fun e w' => e = .returned (.bool true) ∧ Grow w w' := by
  go_enter Try.func5, Try.ntmps5
  go_wp2_with fail
  refine (idGet_any none 0 0 [] _ RB.nil).mono ?_
  rintro e w1 ⟨c, p, err, rfl, ht, he, hg⟩
  obtain ⟨rfl, rfl⟩ := ht.one told_nil
  have HE := Lib.hid he
  have HG := Lib.hid hg
  clear ht he hg
  rw [show idOf [] 2 = .agg #[.bool false, .bool false, .int .u8 0, .int .u8 0] from rfl]
  go_wp2_with fail
  refine (spot_any err 2 0 _ (HE.out.grow (Grow.of_alloc _ _)) (by omega) (by omega)).mono ?_
  rintro e w2 ⟨rfl, hg⟩
  have HG2 : Hid (Grow w w2) := (HG.out.trans (Grow.of_alloc _ _)).trans hg
  clear hg HG HE
  go_wp2_with fail
  refine (idPut_any false false 3 0 _).mono ?_
  rintro e w3 ⟨rfl, ob, hw3⟩
  have HR : Hid (RB w3 w3.heap.size (some ⟨w2.heap.size + 1, 0, none⟩) 16 16 (idL false false 3 0)) := by
    rw [hw3]; exact (RB.put _ _ _ _ _ _ _).more (by simp)
  have HG3 : Hid (Grow w w3) := by
    rw [hw3]; exact (HG2.out.trans (Grow.of_alloc _ _)).trans (Grow.of_alloc _ _)
  clear hw3
  go_wp2_with fail
  refine (idGet_any _ 16 16 _ _ HR.out).mono ?_
  rintro e w4 ⟨c, p, er, rfl, ht, he, hg⟩
  obtain ⟨rfl, rfl⟩ := ht.one (told_idL _ _ _ _)
  obtain rfl := he.nil
  have HG4 : Hid (Grow w w4) := HG3.out.trans hg
  clear ht he hg
  rw [idOf_idL, show idV false false 3 0 = .agg #[.bool false, .bool false, .int .u8 3, .int .u8 0] from rfl]
  go_wp2
  go_ret
  exact ⟨rfl, HG4.out.trans (Grow.of_alloc _ _)⟩
end Go.Proofs.Ythlgdpofhjclhaa
