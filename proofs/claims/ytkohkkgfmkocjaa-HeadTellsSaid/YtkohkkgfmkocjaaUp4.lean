/-
  The contract of the head of layer 4's statements: the document's example holds.
-/
import Derived.Test.YtkohkkgfmkocjaaHeadPut
import Derived.Test.YtkohkkgfmkocjaaRefHeadA
namespace Go.Proofs.Ytkohkkgfmkocjaa
open Go.RowKit

def hdA : Hd := ⟨false, false, 0, 0, 2, 0, 0, 0, 0, 0, 0, 0, 0⟩
def hdB : Hd := ⟨false, false, 0, 0, 0, 0, 4294967296, 0, 0, 0, 0, 0, 0⟩
theorem okA : hdA.Ok := by constructor <;> decide
theorem okB : hdB.Ok := by constructor <;> decide
theorem fitA : rowF hdA.Q = true := by decide +kernel
theorem fitB : rowF hdB.Q = false := by decide +kernel
theorem lenA : hdA.L.length = 52 := by decide +kernel
theorem atA : hdA.L[16]? = some 2 := by decide +kernel

set_option maxHeartbeats 400000 in
theorem up4_any (w : World) : Calls Try.prog 5 #[] w fun e w' => e = .returned (.bool true) ∧ Grow w w' := by
  go_enter Try.func5, Try.ntmps5
  go_wp2_with fail
  refine (hPut_any hdA okA _).mono ?_
  rintro e w1 (⟨_, A, c, rfl, ho, hg⟩ | ⟨hf, _⟩)
  · rw [lenA] at ho ⊢
    have HO := Lib.hid ho
    have HG := Lib.hid hg
    clear ho hg
    go_wp2_with fail
    refine (hPut_any hdB okB _).mono ?_
    rintro e w2 (⟨hf, _⟩ | ⟨_, rfl, hg⟩)
    · rw [fitB] at hf; cases hf
    · have HO2 := Lib.hid (HO.out.keep hg)
      have HG2 : Hid (Grow w w2) := HG.out.trans hg
      clear hg HO HG
      go_wp2_with fail
      refine (hSize_any true false _).mono ?_
      rintro e w3 ⟨rfl, hg⟩
      have HR3 := Lib.hid (HO2.out.keep hg).rb
      have HG3 : Hid (Grow w w3) := HG2.out.trans hg
      clear hg HO2 HG2
      have hcap := HR3.out.cap
      obtain ⟨b, off, rfl, hb, hc⟩ := HR3.out.pos (by omega)
      have h16 : 16 < hdA.L.length := by rw [lenA]; omega
      have q := hc 16 h16
      rw [show hdA.L[16] = 2 from by have := atA; rw [List.getElem?_eq_getElem h16] at this; injection this] at q
      rw [show hSize true = 64 from rfl]
      clear hc h16
      go_wp2_with fail
      refine (code_some 1 (by omega) (by omega) _).mono ?_
      rintro e w4 ⟨rfl, rfl⟩
      go_wp2
      go_ret
      exact ⟨rfl, HG3.out⟩
  · rw [fitA] at hf; cases hf
end Go.Proofs.Ytkohkkgfmkocjaa
