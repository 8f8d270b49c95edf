/-
  The contract of the head of layer 6's statements: the document's example holds.
-/
import Derived.Test.YtfahaefpglnlbaaSecPut
import Derived.Test.YtfahaefpglnlbaaCode
namespace Go.Proofs.Ytfahaefpglnlbaa
open Go.RowKit

def scA : Sc := ⟨0, 0, 0, 0, 0, 0, 5, 0, 0, 0⟩
theorem okSA : scA.Ok := by constructor <;> decide
theorem fitSA : rowF (scA.Q false) = true := by decide +kernel
theorem lenSA : (scA.L false false).length = 40 := by decide +kernel
theorem atSA : (scA.L false false)[24]? = some 5 := by decide +kernel

set_option maxHeartbeats 400000 in
theorem up6_any (w : World) : Calls Try.prog 5 #[] w fun e w' => e = .returned (.bool true) ∧ Grow w w' := by
  go_enter Try.func5, Try.ntmps5
  go_wp2_with fail
  refine (sPut_any scA okSA false false _).mono ?_
  rintro e w1 (⟨_, A, c, rfl, ho, hg⟩ | ⟨hf, _⟩)
  · rw [lenSA] at ho ⊢
    have HO := Lib.hid ho
    have HG := Lib.hid hg
    clear ho hg
    go_wp2_with fail
    refine (sSize_any false false _).mono ?_
    rintro e w2 ⟨rfl, hg⟩
    have HO2 := Lib.hid (HO.out.keep hg)
    have HG2 : Hid (Grow w w2) := HG.out.trans hg
    clear hg HO HG
    rw [show sSize false = 40 from rfl]
    go_wp2_with fail
    refine (sSize_any true false _).mono ?_
    rintro e w3 ⟨rfl, hg⟩
    have HR3 := Lib.hid (HO2.out.keep hg).rb
    have HG3 : Hid (Grow w w3) := HG2.out.trans hg
    clear hg HO2 HG2
    rw [show sSize true = 64 from rfl]
    have hcap := HR3.out.cap
    obtain ⟨b, off, rfl, hb, hc⟩ := HR3.out.pos (by omega)
    have h24 : 24 < (scA.L false false).length := by rw [lenSA]; omega
    have q := hc 24 h24
    rw [show (scA.L false false)[24] = 5 from by have := atSA; rw [List.getElem?_eq_getElem h24] at this; injection this] at q
    clear hc h24
    go_wp2
    go_ret
    exact ⟨rfl, HG3.out⟩
  · rw [fitSA] at hf; cases hf
end Go.Proofs.Ytfahaefpglnlbaa
