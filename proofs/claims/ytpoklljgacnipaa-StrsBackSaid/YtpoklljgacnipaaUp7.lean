/-
  The contract of the head of layer 7's statements: the document's example holds.
-/
import Derived.Test.YtpoklljgacnipaaStrBuild
import Derived.Test.YtpoklljgacnipaaNumsEq
import Derived.Test.YtpoklljgacnipaaCode
import Derived.Test.YtpoklljgacnipaaConv
namespace Go.Proofs.Ytpoklljgacnipaa
open Go.RowKit

/-- A new slice of names. -/
theorem SS.lit (w : World) (t : TypeId) (L : List Bs) (h : L.length ≤ maxLen) (h2 : ∀ s ∈ L, s.length ≤ maxLen) (cs : Array Value) (hcs : cs = (L.map fun s => Value.string (bstr s)).toArray) :
    SS (w.alloc (.cells cs t)) (w.alloc (.cells cs t)).heap.size (some ⟨w.heap.size, 0, none⟩) L.length L.length L := by
  subst hcs
  refine ⟨rfl, Nat.le_refl _, h, h2, fun _ => ⟨w.heap.size, 0, rfl, by simp, fun j hj => ?_⟩⟩
  rw [Nat.zero_add, World.cell?_alloc_mark]
  simp [hj]

def exA : List Bs := [[97], [97]]
def exB : List Bs := [[97, 0]]
theorem areA : areN exA = true := by decide +kernel
theorem areB : areN exB = false := by decide +kernel
theorem tabA : tab exA 2 = [0, 97, 0] := by decide +kernel
theorem atsA : ats exA 2 = [1, 1] := by decide +kernel

set_option maxHeartbeats 400000 in
theorem up7_any (w : World) : Calls Try.prog 5 #[] w fun e w' => e = .returned (.bool true) ∧ Grow w w' := by
  go_enter Try.func5, Try.ntmps5
  go_wp2_with fail
  have HS1 := Lib.hid (SS.lit w 9 exA (by decide) (by decide) #[.string { data := #[97] }, .string { data := #[97] }] rfl)
  have HG1 : Hid (Grow w (w.alloc (.cells #[.string { data := #[97] }, .string { data := #[97] }] 9))) := Grow.of_alloc _ _
  refine (build_any _ 2 2 exA _ HS1.out (by decide) (by decide)).mono ?_
  rintro e w1 ⟨hg, ⟨hn, _⟩ | ⟨_, A, c, A2, c2, rfl, hr, hq⟩⟩
  · rw [areA] at hn; cases hn
  rw [show exA.length = 2 from rfl, tabA, show ([0, 97, 0] : Bs).length = 3 from rfl] at hr
  rw [show exA.length = 2 from rfl, atsA] at hq
  rw [show exA.length = 2 from rfl, tabA, show ([0, 97, 0] : Bs).length = 3 from rfl]
  have HG2 : Hid (Grow w w1) := HG1.out.trans hg
  have HR := Lib.hid hr
  have HQ := Lib.hid hq
  have hc3 := hr.cap
  clear hg hr hq HS1 HG1
  go_wp2_with fail
  have HS2 := Lib.hid (SS.lit w1 9 exB (by decide) (by decide) #[.string { data := #[97, 0] }] rfl)
  have HG3 : Hid (Grow w (w1.alloc (.cells #[.string { data := #[97, 0] }] 9))) := HG2.out.trans (Grow.of_alloc _ _)
  have HG3' : Hid (Grow w1 (w1.alloc (.cells #[.string { data := #[97, 0] }] 9))) := Grow.of_alloc _ _
  refine (build_any _ 1 1 exB _ HS2.out (by decide) (by decide)).mono ?_
  rintro e w2 ⟨hg, ⟨_, rfl⟩ | ⟨hn, _⟩⟩
  · have HG4 : Hid (Grow w w2) := HG3.out.trans hg
    have hw : Grow w1 w2 := HG3'.out.trans hg
    have HR2 := Lib.hid (HR.out.grow hw)
    have HQ2 := Lib.hid ((HQ.out.belowAt hw (Nat.le_refl _)).more hw.size)
    clear hg hw HS2 HG3 HG3' HR HQ HG2
    have hs1 := (HR2.out.conv (Nat.le_refl _)) w2 (Grow.refl _)
    have hs2 : (convert 22 9 (.slice (some ⟨w2.heap.size, 0, none⟩) 3 3)).run Try.prog (w2.alloc (.cells #[.int .u8 0, .int .u8 97, .int .u8 0] 5)) = .ok (.string { data := #[0, 97, 0] }) (w2.alloc (.cells #[.int .u8 0, .int .u8 97, .int .u8 0] 5)) :=
      ((RB.lit w2 5 [0, 97, 0] (by decide)).conv (by simp)) _ (Grow.refl _)
    go_wp2_with fail
    clear hs1 hs2 HR2
    generalize hW : World.alloc _ _ = w3
    obtain ⟨_, b4, hg3⟩ := blk2 hW
    have hq3 := (HQ2.out.belowAt hg3 (Nat.le_refl _)).more hg3.size
    have hn3 : NS w3 w3.heap.size .u64 (some ⟨w2.heap.size + 1, 0, none⟩) 2 2 [1, 1] := NS.of_blkN b4 rfl (by decide) b4.lt rfl
    have HG5 : Hid (Grow w w3) := HG4.out.trans hg3
    clear hW hg3 HG4 HQ2 b4
    refine (nums_same _ _ _ _ _ _ _ _ _ _ hq3 hn3).mono ?_
    rintro e w4 ⟨rfl, hg4⟩
    have HG6 : Hid (Grow w w4) := HG5.out.trans hg4
    clear hg4 HG5 hq3 hn3
    go_wp2_with (go_at_call 11; refine (code_some 9 (by omega) (by omega) _).mono ?_; rintro e wb ⟨rfl, rfl⟩)
    go_ret
    exact ⟨rfl, HG6.out⟩
  · rw [areB] at hn; cases hn
end Go.Proofs.Ytpoklljgacnipaa
