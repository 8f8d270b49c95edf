/-
  The contract of note.lay: bytes of the call's own with a part of a note behind them, and the 0s that fill it up.
-/
import Derived.Test.YtheekcjpphcihaaNtA
import Derived.Test.YtheekcjpphcihaaZeroN
namespace Go.Proofs.Ytheekcjpphcihaa
open Go.RowKit

set_option maxHeartbeats 400000 in
theorem lay_any (base : Nat) (A : Option Addr) (n c : Nat) (l : List UInt8) (B : Nat) (A' : Option Addr) (m c' : Nat) (p : List UInt8) (w : World) (ho : OB w base 5 A n c l) (hr : RB w B A' m c' p) (hb : base ≤ w.heap.size) (hn : n ≤ 1000000) (hm : m ≤ 1000000) :
    Calls Try.prog 18 #[.slice A n c, .slice A' m c'] w fun e w' => ∃ A2 c2, e = .returned (.slice A2 (n + fil m) c2) ∧ OB w' base 5 A2 (n + fil m) c2 (l ++ partB p) ∧ Below base w w' ∧ Left w w' A A2 := by
  have HO := Lib.hid ho
  have HR := Lib.hid hr
  have HB := Lib.hid hb
  have HL := Lib.hid hr.len
  have HF := Lib.hid (fun w => filled_any m (by omega) w)
  have h1 := fil_ge m
  have h2 := fil_le m
  have HP : Hid (l ++ p ++ List.replicate (fil m - m) 0 = l ++ partB p) := Lib.hid (by unfold partB zer; rw [← hr.len, List.append_assoc])
  generalize partB p = pb at HP ⊢
  generalize fil m = f at HF h1 h2 HP ⊢
  obtain ⟨d, hd⟩ : ∃ d, d = f - m := ⟨_, rfl⟩
  have z0 : IntKind.u64.wrap (m : Int) = (m : Int) := by rw [IntKind.wrap_u64]; omega
  have z1 : IntKind.u64.wrap ((f : Int) - (m : Int)) = (d : Int) := by rw [IntKind.wrap_u64]; omega
  have HD : Hid (n + m + d = n + f) := Lib.hid (by omega)
  have hd3 : d ≤ 3 := by omega
  rw [← hd] at HP
  clear ho hr hb hd h1 h2
  go_enter Try.func18, Try.ntmps18
  go_wp2_with (refine wpList_appendS w rfl (.tmp 9) (.tmp 10) 25 rfl base 5 Try.underlying25 (by kernel_rfl) A n c l rfl HO.out B A' m c' p rfl HR.out (by omega) HB.out ?_; intro A5 c5 w9 ho9 hb9 hk9 hn9; refine Hid.out ?_)
  have HO9 := Lib.hid ho9
  have HB9 := Lib.hid hb9
  have HS9 := Lib.hid (Nat.le_trans HB.out hb9.size)
  have HL9 := Lib.hid (Left.of_append hb9.size hk9 hn9)
  clear ho9 hb9 hk9 hn9 HO HR HB
  refine Lib.hid ?_
  go_wp2_with fail
  refine (HF.out _).mono ?_
  rintro e w' ⟨rfl, rfl⟩
  go_wp2_with (refine wpList_appendZeros w9 rfl (.tmp 12) (.tmp 16) 25 51 9 rfl base 5 Try.underlying25 Try.underlying51 Try.underlying9 (by kernel_rfl) A5 (n + m) c5 d _ rfl rfl HO9.out hd3 (by omega) HS9.out ?_; intro A6 c6 w10 ho10 hb10 hl10; refine Hid.out ?_)
  rw [HP.out, HD.out] at ho10
  rw [HD.out]
  have HO10 := Lib.hid ho10
  have HB10 := Lib.hid (HB9.out.trans hb10)
  have HL10 := Lib.hid (HL9.out.trans hl10)
  clear ho10 hb10 hl10 HO9 HB9 HL9
  refine Lib.hid ?_
  go_wp2
  go_ret
  exact ⟨A6, c6, rfl, HO10.out, HB10.out, HL10.out⟩
end Go.Proofs.Ytheekcjpphcihaa
