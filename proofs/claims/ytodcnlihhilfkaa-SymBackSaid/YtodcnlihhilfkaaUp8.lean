/-
  The contract of the head of layer 8's statements: the document's example holds.
-/
import Derived.Test.YtodcnlihhilfkaaSyAll
import Derived.Test.YtodcnlihhilfkaaSyIdx
namespace Go.Proofs.Ytodcnlihhilfkaa
open Go.RowKit

def syE : List Sy := [⟨0, 0, 0, 65535, 0, 0⟩]
def xE : List UInt8 := [7, 0, 0, 0]
def zE : List UInt8 := List.replicate 17 0
theorem okE : ∀ s ∈ syE, s.Ok := by
  intro s hs
  obtain rfl : s = ⟨0, 0, 0, 65535, 0, 0⟩ := by simpa [syE] using hs
  constructor <;> decide
theorem idxE : idxV syE xE false 0 = 7 ∧ idxB syE xE 0 = true := by decide +kernel
theorem modE : zE.length % ySize false = 1 ∧ zE.length - zE.length % ySize false = 16 := by decide +kernel

set_option maxHeartbeats 400000 in
theorem up8_any (w : World) : Calls Try.prog 5 #[] w fun e w' => e = .returned (.bool true) ∧ Grow w w' := by
  have hmk : (Instr.makeSlice 25 (.int .i64 17) (.int .i64 17)).run Try.prog w = .ok (.slice (some ⟨w.heap.size, 0, none⟩) 17 17) (w.alloc (.cells (zE.map byt).toArray 5)) := by kernel_rfl
  go_enter Try.func5, Try.ntmps5
  go_wp2_with fail
  generalize hW : World.alloc _ _ = w0
  have HR : Hid (RB w0 w0.heap.size (some ⟨w.heap.size, 0, none⟩) 17 17 zE) := by
    subst hW
    exact (RB.lit w 5 zE (by decide)).more (by simp)
  have HG0 : Hid (Grow w w0) := by subst hW; exact Grow.of_alloc _ _
  clear hW hmk
  refine (yAll_any _ 17 17 zE false false w0 HR.out (by decide)).mono ?_
  rintro e w1 (⟨hn, _⟩ | ⟨_, er, rfl, he, hg1⟩)
  · rw [modE.1] at hn; cases hn
  rw [modE.2] at he
  have HE := Lib.hid he
  have HG1 : Hid (Grow w w1) := HG0.out.trans hg1
  clear he hg1 HR HG0
  go_wp2_with fail
  refine (spot_any er 2 16 _ HE.out (by omega) (by omega)).mono ?_
  rintro e w2 ⟨rfl, hg2⟩
  have HG2 : Hid (Grow w w2) := HG1.out.trans hg2
  clear hg2 HG1 HE
  go_wp2_with fail
  generalize hW : World.alloc _ _ = w3
  obtain ⟨b1, b2, hg3⟩ := blk2 hW
  have HZ : Hid (ZS w3 w3.heap.size 6 (some ⟨w2.heap.size, 0, none⟩) 1 1 (syE.map Sy.C)) := ZS.one b1 b1.lt
  have HR : Hid (RB w3 w3.heap.size (some ⟨w2.heap.size + 1, 0, none⟩) 4 4 xE) := (OB.of_blk (base := 0) (l := xE) b2 (Nat.zero_le _) (by decide)).rb
  have HG3 : Hid (Grow w w3) := HG2.out.trans hg3
  clear hW b1 b2 hg3 HG2
  refine (idx_any _ 1 1 syE _ 4 4 xE false false 0 w3 HZ.out HR.out okE (by decide)).mono ?_
  rintro e w4 ⟨rfl, hg4⟩
  rw [idxE.1, idxE.2]
  have HG4 : Hid (Grow w w4) := HG3.out.trans hg4
  clear hg4 HG3 HZ HR
  go_wp2
  go_ret
  exact ⟨rfl, HG4.out⟩
end Go.Proofs.Ytodcnlihhilfkaa
