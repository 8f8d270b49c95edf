/-
  A function whose run jumps back to one label: what holds there is shown once, for the first way to it and for every jump. Lists of many letters. No program's function is spoken of here.
-/
import Derived.Test.YtfnaigeakfgpbaaTree
import Derived.ScopeJumps
namespace Go.Proofs.Ytfnaigeakfgpbaa
open Go.RowKit

theorem Exit.jump_mono {l : Nat} {J J' : Act → World → Prop} {Q : Exit → Act → World → Prop} (h : ∀ a w, J a w → J' a w) : ∀ e a w, Exit.jump l J Q e a w → Exit.jump l J' Q e a w
  | .goto _, _, _, h' => ⟨h'.1, h _ _ h'.2⟩
  | .normal, _, _, h' => h'
  | .exit _, _, _, h' => h'
  | .ret, _, _, h' => h'
  | .panic _, _, _, h' => h'
  | .outgrown, _, _, h' => h'
theorem wp_scope_loop {P : Program} {a : Act} {w : World} {Q : Exit → Act → World → Prop} {c rest : Code} (l : Nat) (J : Act → World → Prop) (μ : Act → World → Nat) (hf : findLabel c l = some (Code.skip.seq rest))
    (pass : ∀ a w, J a w → rest.wp P (Exit.jump l (fun a' w' => J a' w' ∧ μ a' w' < μ a w) Q) a w)
    (first : (∀ a w, J a w → rest.wp P (Exit.jump l J Q) a w) → c.wp P (Exit.jump l J Q) a w) : (Code.scope c).wp P Q a w :=
  wp_scope_jumps l J μ hf (first fun a w hJ => wp_mono (pass a w hJ) (Exit.jump_mono fun _ _ h => h.1)) fun a w hJ => wp_seq (wp_skip (pass a w hJ))

theorem uncons {n : Nat} {l : List Value} (h : l.length = n + 1) : ∃ x t, l = x :: t ∧ t.length = n := by
  match l, h with
  | x :: t, h => exact ⟨x, t, rfl, by simpa using h⟩
set_option maxRecDepth 100000 in
theorem list50 {l0 : List Value} (h0 : l0.length = 50) : ∃ x0 x1 x2 x3 x4 x5 x6 x7 x8 x9 x10 x11 x12 x13 x14 x15 x16 x17 x18 x19 x20 x21 x22 x23 x24 x25 x26 x27 x28 x29 x30 x31 x32 x33 x34 x35 x36 x37 x38 x39 x40 x41 x42 x43 x44 x45 x46 x47 x48 x49, l0 = [x0, x1, x2, x3, x4, x5, x6, x7, x8, x9, x10, x11, x12, x13, x14, x15, x16, x17, x18, x19, x20, x21, x22, x23, x24, x25, x26, x27, x28, x29, x30, x31, x32, x33, x34, x35, x36, x37, x38, x39, x40, x41, x42, x43, x44, x45, x46, x47, x48, x49] := by
  obtain ⟨x0, l1, e0, h1⟩ := uncons h0
  obtain ⟨x1, l2, e1, h2⟩ := uncons h1
  obtain ⟨x2, l3, e2, h3⟩ := uncons h2
  obtain ⟨x3, l4, e3, h4⟩ := uncons h3
  obtain ⟨x4, l5, e4, h5⟩ := uncons h4
  obtain ⟨x5, l6, e5, h6⟩ := uncons h5
  obtain ⟨x6, l7, e6, h7⟩ := uncons h6
  obtain ⟨x7, l8, e7, h8⟩ := uncons h7
  obtain ⟨x8, l9, e8, h9⟩ := uncons h8
  obtain ⟨x9, l10, e9, h10⟩ := uncons h9
  obtain ⟨x10, l11, e10, h11⟩ := uncons h10
  obtain ⟨x11, l12, e11, h12⟩ := uncons h11
  obtain ⟨x12, l13, e12, h13⟩ := uncons h12
  obtain ⟨x13, l14, e13, h14⟩ := uncons h13
  obtain ⟨x14, l15, e14, h15⟩ := uncons h14
  obtain ⟨x15, l16, e15, h16⟩ := uncons h15
  obtain ⟨x16, l17, e16, h17⟩ := uncons h16
  obtain ⟨x17, l18, e17, h18⟩ := uncons h17
  obtain ⟨x18, l19, e18, h19⟩ := uncons h18
  obtain ⟨x19, l20, e19, h20⟩ := uncons h19
  obtain ⟨x20, l21, e20, h21⟩ := uncons h20
  obtain ⟨x21, l22, e21, h22⟩ := uncons h21
  obtain ⟨x22, l23, e22, h23⟩ := uncons h22
  obtain ⟨x23, l24, e23, h24⟩ := uncons h23
  obtain ⟨x24, l25, e24, h25⟩ := uncons h24
  obtain ⟨x25, l26, e25, h26⟩ := uncons h25
  obtain ⟨x26, l27, e26, h27⟩ := uncons h26
  obtain ⟨x27, l28, e27, h28⟩ := uncons h27
  obtain ⟨x28, l29, e28, h29⟩ := uncons h28
  obtain ⟨x29, l30, e29, h30⟩ := uncons h29
  obtain ⟨x30, l31, e30, h31⟩ := uncons h30
  obtain ⟨x31, l32, e31, h32⟩ := uncons h31
  obtain ⟨x32, l33, e32, h33⟩ := uncons h32
  obtain ⟨x33, l34, e33, h34⟩ := uncons h33
  obtain ⟨x34, l35, e34, h35⟩ := uncons h34
  obtain ⟨x35, l36, e35, h36⟩ := uncons h35
  obtain ⟨x36, l37, e36, h37⟩ := uncons h36
  obtain ⟨x37, l38, e37, h38⟩ := uncons h37
  obtain ⟨x38, l39, e38, h39⟩ := uncons h38
  obtain ⟨x39, l40, e39, h40⟩ := uncons h39
  obtain ⟨x40, l41, e40, h41⟩ := uncons h40
  obtain ⟨x41, l42, e41, h42⟩ := uncons h41
  obtain ⟨x42, l43, e42, h43⟩ := uncons h42
  obtain ⟨x43, l44, e43, h44⟩ := uncons h43
  obtain ⟨x44, l45, e44, h45⟩ := uncons h44
  obtain ⟨x45, l46, e45, h46⟩ := uncons h45
  obtain ⟨x46, l47, e46, h47⟩ := uncons h46
  obtain ⟨x47, l48, e47, h48⟩ := uncons h47
  obtain ⟨x48, l49, e48, h49⟩ := uncons h48
  obtain ⟨x49, l50, e49, h50⟩ := uncons h49
  have e := List.eq_nil_of_length_eq_zero h50
  rw [e0, e1, e2, e3, e4, e5, e6, e7, e8, e9, e10, e11, e12, e13, e14, e15, e16, e17, e18, e19, e20, e21, e22, e23, e24, e25, e26, e27, e28, e29, e30, e31, e32, e33, e34, e35, e36, e37, e38, e39, e40, e41, e42, e43, e44, e45, e46, e47, e48, e49, e]
  exact ⟨_, _, _, _, _, _, _, _, _, _, _, _, _, _, _, _, _, _, _, _, _, _, _, _, _, _, _, _, _, _, _, _, _, _, _, _, _, _, _, _, _, _, _, _, _, _, _, _, _, _, rfl⟩
set_option maxRecDepth 100000 in
theorem list63 {l0 : List Value} (h0 : l0.length = 63) : ∃ x0 x1 x2 x3 x4 x5 x6 x7 x8 x9 x10 x11 x12 x13 x14 x15 x16 x17 x18 x19 x20 x21 x22 x23 x24 x25 x26 x27 x28 x29 x30 x31 x32 x33 x34 x35 x36 x37 x38 x39 x40 x41 x42 x43 x44 x45 x46 x47 x48 x49 x50 x51 x52 x53 x54 x55 x56 x57 x58 x59 x60 x61 x62, l0 = [x0, x1, x2, x3, x4, x5, x6, x7, x8, x9, x10, x11, x12, x13, x14, x15, x16, x17, x18, x19, x20, x21, x22, x23, x24, x25, x26, x27, x28, x29, x30, x31, x32, x33, x34, x35, x36, x37, x38, x39, x40, x41, x42, x43, x44, x45, x46, x47, x48, x49, x50, x51, x52, x53, x54, x55, x56, x57, x58, x59, x60, x61, x62] := by
  obtain ⟨x0, l1, e0, h1⟩ := uncons h0
  obtain ⟨x1, l2, e1, h2⟩ := uncons h1
  obtain ⟨x2, l3, e2, h3⟩ := uncons h2
  obtain ⟨x3, l4, e3, h4⟩ := uncons h3
  obtain ⟨x4, l5, e4, h5⟩ := uncons h4
  obtain ⟨x5, l6, e5, h6⟩ := uncons h5
  obtain ⟨x6, l7, e6, h7⟩ := uncons h6
  obtain ⟨x7, l8, e7, h8⟩ := uncons h7
  obtain ⟨x8, l9, e8, h9⟩ := uncons h8
  obtain ⟨x9, l10, e9, h10⟩ := uncons h9
  obtain ⟨x10, l11, e10, h11⟩ := uncons h10
  obtain ⟨x11, l12, e11, h12⟩ := uncons h11
  obtain ⟨x12, l13, e12, h13⟩ := uncons h12
  obtain ⟨x13, l14, e13, h14⟩ := uncons h13
  obtain ⟨x14, l15, e14, h15⟩ := uncons h14
  obtain ⟨x15, l16, e15, h16⟩ := uncons h15
  obtain ⟨x16, l17, e16, h17⟩ := uncons h16
  obtain ⟨x17, l18, e17, h18⟩ := uncons h17
  obtain ⟨x18, l19, e18, h19⟩ := uncons h18
  obtain ⟨x19, l20, e19, h20⟩ := uncons h19
  obtain ⟨x20, l21, e20, h21⟩ := uncons h20
  obtain ⟨x21, l22, e21, h22⟩ := uncons h21
  obtain ⟨x22, l23, e22, h23⟩ := uncons h22
  obtain ⟨x23, l24, e23, h24⟩ := uncons h23
  obtain ⟨x24, l25, e24, h25⟩ := uncons h24
  obtain ⟨x25, l26, e25, h26⟩ := uncons h25
  obtain ⟨x26, l27, e26, h27⟩ := uncons h26
  obtain ⟨x27, l28, e27, h28⟩ := uncons h27
  obtain ⟨x28, l29, e28, h29⟩ := uncons h28
  obtain ⟨x29, l30, e29, h30⟩ := uncons h29
  obtain ⟨x30, l31, e30, h31⟩ := uncons h30
  obtain ⟨x31, l32, e31, h32⟩ := uncons h31
  obtain ⟨x32, l33, e32, h33⟩ := uncons h32
  obtain ⟨x33, l34, e33, h34⟩ := uncons h33
  obtain ⟨x34, l35, e34, h35⟩ := uncons h34
  obtain ⟨x35, l36, e35, h36⟩ := uncons h35
  obtain ⟨x36, l37, e36, h37⟩ := uncons h36
  obtain ⟨x37, l38, e37, h38⟩ := uncons h37
  obtain ⟨x38, l39, e38, h39⟩ := uncons h38
  obtain ⟨x39, l40, e39, h40⟩ := uncons h39
  obtain ⟨x40, l41, e40, h41⟩ := uncons h40
  obtain ⟨x41, l42, e41, h42⟩ := uncons h41
  obtain ⟨x42, l43, e42, h43⟩ := uncons h42
  obtain ⟨x43, l44, e43, h44⟩ := uncons h43
  obtain ⟨x44, l45, e44, h45⟩ := uncons h44
  obtain ⟨x45, l46, e45, h46⟩ := uncons h45
  obtain ⟨x46, l47, e46, h47⟩ := uncons h46
  obtain ⟨x47, l48, e47, h48⟩ := uncons h47
  obtain ⟨x48, l49, e48, h49⟩ := uncons h48
  obtain ⟨x49, l50, e49, h50⟩ := uncons h49
  obtain ⟨x50, l51, e50, h51⟩ := uncons h50
  obtain ⟨x51, l52, e51, h52⟩ := uncons h51
  obtain ⟨x52, l53, e52, h53⟩ := uncons h52
  obtain ⟨x53, l54, e53, h54⟩ := uncons h53
  obtain ⟨x54, l55, e54, h55⟩ := uncons h54
  obtain ⟨x55, l56, e55, h56⟩ := uncons h55
  obtain ⟨x56, l57, e56, h57⟩ := uncons h56
  obtain ⟨x57, l58, e57, h58⟩ := uncons h57
  obtain ⟨x58, l59, e58, h59⟩ := uncons h58
  obtain ⟨x59, l60, e59, h60⟩ := uncons h59
  obtain ⟨x60, l61, e60, h61⟩ := uncons h60
  obtain ⟨x61, l62, e61, h62⟩ := uncons h61
  obtain ⟨x62, l63, e62, h63⟩ := uncons h62
  have e := List.eq_nil_of_length_eq_zero h63
  rw [e0, e1, e2, e3, e4, e5, e6, e7, e8, e9, e10, e11, e12, e13, e14, e15, e16, e17, e18, e19, e20, e21, e22, e23, e24, e25, e26, e27, e28, e29, e30, e31, e32, e33, e34, e35, e36, e37, e38, e39, e40, e41, e42, e43, e44, e45, e46, e47, e48, e49, e50, e51, e52, e53, e54, e55, e56, e57, e58, e59, e60, e61, e62, e]
  exact ⟨_, _, _, _, _, _, _, _, _, _, _, _, _, _, _, _, _, _, _, _, _, _, _, _, _, _, _, _, _, _, _, _, _, _, _, _, _, _, _, _, _, _, _, _, _, _, _, _, _, _, _, _, _, _, _, _, _, _, _, _, _, _, _, rfl⟩
end Go.Proofs.Ytfnaigeakfgpbaa
