/-
  The contract of the head of layer 9's statements: the document's example holds.
-/
import Derived.Test.YtkgjebkjpcpoaaaRePut
import Derived.Test.YtkgjebkjpcpoaaaCode
namespace Go.Proofs.Ytkgjebkjpcpoaaa
open Go.RowKit

def reE : List Re := [⟨1, 2, 3, -1⟩]
def reF : List Re := [⟨0, 0, 0, -1⟩]
theorem okE : ∀ s ∈ reE, s.Ok := by
  intro s hs
  obtain rfl : s = ⟨1, 2, 3, -1⟩ := by simpa [reE] using hs
  constructor <;> decide
theorem okF : ∀ s ∈ reF, s.Ok := by
  intro s hs
  obtain rfl : s = ⟨0, 0, 0, -1⟩ := by simpa [reF] using hs
  constructor <;> decide
theorem mayE : mays true true reE = true ∧ mays true false reF = false := by decide +kernel
theorem bytE : rowB false (relQ true true reE) = [1, 0, 0, 0, 0, 0, 0, 0, 3, 0, 0, 0, 2, 0, 0, 0, 255, 255, 255, 255, 255, 255, 255, 255] := by decide +kernel

set_option maxHeartbeats 400000 in
theorem up9_any (w : World) : Calls Try.prog 5 #[] w fun e w' => e = .returned (.bool true) ∧ Grow w w' := by
  go_enter Try.func5, Try.ntmps5
  go_wp2_with fail
  generalize hW : World.alloc _ _ = w0
  obtain ⟨b0, hg0⟩ := blk1 hW
  have HZ : Hid (ZS w0 w0.heap.size 4 (some ⟨w.heap.size, 0, none⟩) 1 1 (reE.map Re.C)) := ZS.one b0 b0.lt
  have HG0 := Lib.hid hg0
  clear hW b0 hg0
  refine (ePut_any _ 1 1 reE okE (by decide) true true false w0 HZ.out).mono ?_
  rintro e w1 (⟨_, A, c, rfl, ho, hg1⟩ | ⟨hn, _⟩)
  rotate_left
  · rw [mayE.1] at hn; cases hn
  rw [bytE] at ho ⊢
  obtain ⟨b, off, rfl, hb, hc⟩ := ho.rb.pos (by decide)
  have h8 : w1.cell? ⟨b, off + 8, none⟩ = some (.int .u8 3) := hc 8 (by decide)
  have h12 : w1.cell? ⟨b, off + 12, none⟩ = some (.int .u8 2) := hc 12 (by decide)
  have h23 : w1.cell? ⟨b, off + 23, none⟩ = some (.int .u8 255) := hc 23 (by decide)
  have HC : Hid (∀ W, Grow w1 W → W.cell? ⟨b, off + 8, none⟩ = some (.int .u8 3) ∧ W.cell? ⟨b, off + 12, none⟩ = some (.int .u8 2) ∧ W.cell? ⟨b, off + 23, none⟩ = some (.int .u8 255)) :=
    Lib.hid fun W hW => ⟨(hW.cell hb).trans h8, (hW.cell hb).trans h12, (hW.cell hb).trans h23⟩
  have HG1 : Hid (Grow w w1) := HG0.out.trans hg1
  have hcap := ho.rb.cap
  clear h8 h12 h23 hc hb ho hg1 HZ HG0
  simp only [List.length_cons, List.length_nil] at hcap ⊢
  go_wp2_with fail
  generalize hW : World.alloc _ _ = w2
  obtain ⟨b0, hg2⟩ := blk1 hW
  have HZ : Hid (ZS w2 w2.heap.size 4 (some ⟨w1.heap.size, 0, none⟩) 1 1 (reF.map Re.C)) := ZS.one b0 b0.lt
  have HG2 := Lib.hid hg2
  clear hW b0 hg2
  refine (ePut_any _ 1 1 reF okF (by decide) true false false w2 HZ.out).mono ?_
  rintro e w3 (⟨hn, _⟩ | ⟨_, rfl, hg3⟩)
  · rw [mayE.2] at hn; cases hn
  have HG3 : Hid (Grow w1 w3) := HG2.out.trans hg3
  clear hg3 HG2 HZ
  obtain ⟨y8, y12, y23⟩ := HC.out w3 HG3.out
  go_wp2_with fail
  refine (reSize_any false false false w3).mono ?_
  rintro e w4 ⟨rfl, hg4⟩
  rw [show reSize false false = 8 from rfl]
  have HG4 : Hid (Grow w w4) := (HG1.out.trans HG3.out).trans hg4
  clear hg4 HG3 HG1 HC y8 y12 y23
  go_wp2_with fail
  refine (code_some 1 (by omega) (by omega) _).mono ?_
  rintro e w5 ⟨rfl, rfl⟩
  go_wp2
  go_ret
  exact ⟨rfl, HG4.out⟩
end Go.Proofs.Ytkgjebkjpcpoaaa
