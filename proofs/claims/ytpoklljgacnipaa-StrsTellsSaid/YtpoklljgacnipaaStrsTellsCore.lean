/-
  The walk of bezantlaw07.StrsTells: at any bytes, any place and any names it returns true, and nothing that was there has changed.
-/
import Derived.Test.YtpoklljgacnipaaUp7
import Derived.Test.YtpoklljgacnipaaStrSmall
import Derived.Test.YtpoklljgacnipaaStrName
import Derived.Test.YtpoklljgacnipaaStrNames
namespace Go.Proofs.Ytpoklljgacnipaa
open Go.RowKit

theorem NS.nil {w : World} {B : Nat} {k : IntKind} : NS w B k none 0 0 [] := ⟨rfl, Nat.le_refl _, Nat.zero_le _, fun h => absurd h (by omega)⟩

set_option maxRecDepth 100000 in
set_option maxHeartbeats 2000000 in
theorem strsTells_core (A : Option Addr) (n c : Nat) (l : Bs) (off : Nat) (A' : Option Addr) (n' c' : Nat) (L : List Bs) (w : World) (hr : RB w w.heap.size A n c l) (hof : off < 18446744073709551616) (hs : SS w w.heap.size A' n' c' L) :
    Calls Try.prog 3 #[.slice A n c, .int .u64 off, .slice A' n' c'] w fun e w' => e = .returned (.bool true) ∧ Below w.heap.size w w' := by
  have HR := Lib.hid hr
  have HS := Lib.hid hs
  have hc := hr.cap
  have hm := hr.max
  unfold maxLen at hm
  clear hr hs
  by_cases hbig : 10000 < n
  · go_enter Try.func3, Try.ntmps3
    go_wp2_with (go_at_call 5; refine (up7_any _).mono ?_; rintro e w1 ⟨rfl, hb1⟩; have HB := Lib.hid hb1; clear hb1)
    go_ret
    exact ⟨rfl, HB.out⟩
  · have hd : decide (10000 < (n : Int)) = false := decide_eq_false (by omega)
    go_enter Try.func3, Try.ntmps3
    go_wp2_with fail
    refine (up7_any _).mono ?_
    rintro e w1 ⟨rfl, hb1⟩
    have HB := Lib.hid hb1
    have HR1 := Lib.hid (HR.out.grow hb1)
    have HS1 := Lib.hid (HS.out.grow hb1)
    clear hb1 HR HS
    go_wp2_with fail
    refine (small_any _ _ _ _ _ _ HS1.out).mono ?_
    rintro e w' ⟨rfl, rfl | ⟨rfl, h60, h5⟩⟩
    · go_wp2_with fail
      go_ret
      exact ⟨rfl, HB.out⟩
    · have H60 := Lib.hid h60
      have H5 := Lib.hid h5
      clear h60 h5
      go_wp2_with fail
      refine (sGet_any _ _ _ _ _ _ HR1.out hof).mono ?_
      rintro e w' ⟨rfl, rfl⟩
      have HN := Lib.hid (rName_any _ _ _ _ _ _ HR1.out hof)
      unfold GotN at HN
      generalize bstr ((nameAt l off).getD []) = S at HN ⊢
      generalize (nameAt l off).isSome = ok at HN ⊢
      go_wp2_with fail
      refine HN.out.mono ?_
      rintro e w' ⟨rfl, rfl⟩
      clear HN HR1
      have hs1 : (S.toList == S.toList) = true := beq_self_eq_true _
      have hs2 : (S.toList != S.toList) = false := by simp
      have HSf := Lib.hid (And.intro hs1 hs2)
      clear hs1 hs2
      go_wp2_with fail
      refine (build_any _ _ _ _ _ HS1.out H60.out H5.out).mono ?_
      rintro e w2 ⟨hg2, ⟨hz, rfl⟩ | ⟨hz, B1, c1, B2, c2, rfl, hb2, hn2⟩⟩
      · have HZ := Lib.hid hz
        have HB2 : Hid (Below w.heap.size w w2) := Grow.trans HB.out hg2
        have HS2 := Lib.hid (HS1.out.grow hg2)
        clear hz hg2 HS1 HB
        go_wp2_with fail
        refine (names_any _ _ _ _ _ HS2.out H60.out H5.out).mono ?_
        rintro e w3 ⟨hg3, ⟨_, rfl⟩ | ⟨hz, _⟩⟩
        · have HB3 : Hid (Grow w w3) := Grow.trans HB2.out hg3
          clear hg3 HB2 HS2
          have hv0 : (convert 22 9 (.slice none 0 0)).run Try.prog w3 = .ok (.string { data := #[] }) w3 := RB.nil.conv (Nat.le_refl _) w3 (Grow.refl _)
          obtain ⟨hs1, hs2⟩ := HSf.out
          cases ok
          all_goals
            go_wp2_with fail
            refine (code_some 9 (by omega) (by omega) _).mono ?_
            rintro e wb ⟨rfl, rfl⟩
            go_wp2_with fail
            refine (nums_same _ _ _ _ _ _ _ w3.heap.size w3.heap.size _ NS.nil NS.nil).mono ?_
            rintro e w4 ⟨rfl, hg4⟩
            have HB4 : Hid (Grow w w4) := Grow.trans HB3.out hg4
            clear hg4
            go_wp2_with fail
            go_ret
            exact ⟨rfl, HB4.out⟩
        · rw [HZ.out] at hz; cases hz
      · have HZ := Lib.hid hz
        have HB2 : Hid (Below w.heap.size w w2) := Grow.trans HB.out hg2
        have HS2 := Lib.hid (HS1.out.grow hg2)
        have HR2 := Lib.hid hb2
        have HN2 := Lib.hid hn2
        clear hz hg2 HS1 HB hb2 hn2
        go_wp2_with fail
        refine (names_any _ _ _ _ _ HS2.out H60.out H5.out).mono ?_
        rintro e w3 ⟨hg3, ⟨hz, _⟩ | ⟨_, B3, c3, B4, c4, rfl, hb3, hn3⟩⟩
        · rw [HZ.out] at hz; cases hz
        · have HB3 : Hid (Grow w w3) := Grow.trans HB2.out hg3
          have HR3 := Lib.hid hb3
          have HN3 := Lib.hid hn3
          have HR2' := Lib.hid (HR2.out.grow hg3)
          have HN2' := Lib.hid ((HN2.out.belowAt hg3 (Nat.le_refl _)).more hg3.size)
          clear hg3 HB2 HS2 hb3 hn3 HR2 HN2
          have hv1 := HR2'.out.conv (Nat.le_refl _) w3 (Grow.refl _)
          have hv2 := HR3.out.conv (Nat.le_refl _) w3 (Grow.refl _)
          generalize ({ data := (tab L L.length).toArray } : ByteArray) = X at hv1 hv2
          have hx : (X.toList == X.toList) = true := beq_self_eq_true _
          obtain ⟨hs1, hs2⟩ := HSf.out
          cases ok
          all_goals
            go_wp2_with fail
            refine (nums_same _ _ _ _ _ _ _ w3.heap.size w3.heap.size _ HN2'.out HN3.out).mono ?_
            rintro e w4 ⟨rfl, hg4⟩
            have HB4 : Hid (Grow w w4) := Grow.trans HB3.out hg4
            clear hg4
            go_wp2_with fail
            go_ret
            exact ⟨rfl, HB4.out⟩
end Go.Proofs.Ytpoklljgacnipaa
