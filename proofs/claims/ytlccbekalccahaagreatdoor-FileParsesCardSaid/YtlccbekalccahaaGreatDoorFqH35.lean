/-
  Several texts in one: The walk of the document's own Parse, part by part; The walk of the document's own Parse, part A.
-/
import Derived.Test.YtlccbekalccahaaGreatDoorFqH23
import Derived.Test.YtlccbekalccahaaGreatDoorFqH26
import Derived.Test.YtlccbekalccahaaGreatDoorFqH28
import Derived.Test.YtlccbekalccahaaGreatDoorFqH29
import Derived.Test.YtlccbekalccahaaGreatDoorFqH34
import Derived.Test.YtlccbekalccahaaGreatDoorFqH33
namespace Go.Proofs.YtlccbekalccahaaGreatDoor
open Go.Lib (hid)
open Go.RowKit
set_option maxRecDepth 100000
set_option linter.unusedVariables false
def sufOf : Nat → Code → Code
 | n + 1, .seq _ b => sufOf n b
 | _, c => c
def bodyOf (f : Func) : Code := match f.body with
 | some c => c
 | none => .skip
theorem uncons1 {l : List Value} {n : Nat} (h : l.length = n + 1) : ∃ x t, l = x :: t ∧ t.length = n := by
 cases l with
 | nil => simp at h
 | cons x t => exact ⟨x, t, rfl, by simpa using h⟩
theorem ls16 {l : List Value} {n : Nat} (h : l.length = n + 16) : ∃ x0 x1 x2 x3 x4 x5 x6 x7 x8 x9 x10 x11 x12 x13 x14 x15 t, l = x0 :: x1 :: x2 :: x3 :: x4 :: x5 :: x6 :: x7 :: x8 :: x9 :: x10 :: x11 :: x12 :: x13 :: x14 :: x15 :: t ∧ t.length = n := by
 obtain ⟨x0, l, rfl, h0⟩ := uncons1 h
 obtain ⟨x1, l, rfl, h1⟩ := uncons1 h0
 obtain ⟨x2, l, rfl, h2⟩ := uncons1 h1
 obtain ⟨x3, l, rfl, h3⟩ := uncons1 h2
 obtain ⟨x4, l, rfl, h4⟩ := uncons1 h3
 obtain ⟨x5, l, rfl, h5⟩ := uncons1 h4
 obtain ⟨x6, l, rfl, h6⟩ := uncons1 h5
 obtain ⟨x7, l, rfl, h7⟩ := uncons1 h6
 obtain ⟨x8, l, rfl, h8⟩ := uncons1 h7
 obtain ⟨x9, l, rfl, h9⟩ := uncons1 h8
 obtain ⟨x10, l, rfl, h10⟩ := uncons1 h9
 obtain ⟨x11, l, rfl, h11⟩ := uncons1 h10
 obtain ⟨x12, l, rfl, h12⟩ := uncons1 h11
 obtain ⟨x13, l, rfl, h13⟩ := uncons1 h12
 obtain ⟨x14, l, rfl, h14⟩ := uncons1 h13
 obtain ⟨x15, l, rfl, h15⟩ := uncons1 h14
 exact ⟨x0, x1, x2, x3, x4, x5, x6, x7, x8, x9, x10, x11, x12, x13, x14, x15, l, rfl, h15⟩
theorem lst4 {l : List Value} (h : l.length = 4) : ∃ x0 x1 x2 x3, l = [x0, x1, x2, x3] := by
 obtain ⟨x0, l, rfl, h0⟩ := uncons1 h
 obtain ⟨x1, l, rfl, h1⟩ := uncons1 h0
 obtain ⟨x2, l, rfl, h2⟩ := uncons1 h1
 obtain ⟨x3, l, rfl, h3⟩ := uncons1 h2
 obtain rfl : l = [] := List.length_eq_zero_iff.1 h3
 exact ⟨x0, x1, x2, x3, rfl⟩
theorem lst6 {l : List Value} (h : l.length = 6) : ∃ x0 x1 x2 x3 x4 x5, l = [x0, x1, x2, x3, x4, x5] := by
 obtain ⟨x0, l, rfl, h0⟩ := uncons1 h
 obtain ⟨x1, l, rfl, h1⟩ := uncons1 h0
 obtain ⟨x2, l, rfl, h2⟩ := uncons1 h1
 obtain ⟨x3, l, rfl, h3⟩ := uncons1 h2
 obtain ⟨x4, l, rfl, h4⟩ := uncons1 h3
 obtain ⟨x5, l, rfl, h5⟩ := uncons1 h4
 obtain rfl : l = [] := List.length_eq_zero_iff.1 h5
 exact ⟨x0, x1, x2, x3, x4, x5, rfl⟩
theorem lst7 {l : List Value} (h : l.length = 7) : ∃ x0 x1 x2 x3 x4 x5 x6, l = [x0, x1, x2, x3, x4, x5, x6] := by
 obtain ⟨x0, l, rfl, h0⟩ := uncons1 h
 obtain ⟨x1, l, rfl, h1⟩ := uncons1 h0
 obtain ⟨x2, l, rfl, h2⟩ := uncons1 h1
 obtain ⟨x3, l, rfl, h3⟩ := uncons1 h2
 obtain ⟨x4, l, rfl, h4⟩ := uncons1 h3
 obtain ⟨x5, l, rfl, h5⟩ := uncons1 h4
 obtain ⟨x6, l, rfl, h6⟩ := uncons1 h5
 obtain rfl : l = [] := List.length_eq_zero_iff.1 h6
 exact ⟨x0, x1, x2, x3, x4, x5, x6, rfl⟩
theorem lst8 {l : List Value} (h : l.length = 8) : ∃ x0 x1 x2 x3 x4 x5 x6 x7, l = [x0, x1, x2, x3, x4, x5, x6, x7] := by
 obtain ⟨x0, l, rfl, h0⟩ := uncons1 h
 obtain ⟨x1, l, rfl, h1⟩ := uncons1 h0
 obtain ⟨x2, l, rfl, h2⟩ := uncons1 h1
 obtain ⟨x3, l, rfl, h3⟩ := uncons1 h2
 obtain ⟨x4, l, rfl, h4⟩ := uncons1 h3
 obtain ⟨x5, l, rfl, h5⟩ := uncons1 h4
 obtain ⟨x6, l, rfl, h6⟩ := uncons1 h5
 obtain ⟨x7, l, rfl, h7⟩ := uncons1 h6
 obtain rfl : l = [] := List.length_eq_zero_iff.1 h7
 exact ⟨x0, x1, x2, x3, x4, x5, x6, x7, rfl⟩
theorem lst11 {l : List Value} (h : l.length = 11) : ∃ x0 x1 x2 x3 x4 x5 x6 x7 x8 x9 x10, l = [x0, x1, x2, x3, x4, x5, x6, x7, x8, x9, x10] := by
 obtain ⟨x0, l, rfl, h0⟩ := uncons1 h
 obtain ⟨x1, l, rfl, h1⟩ := uncons1 h0
 obtain ⟨x2, l, rfl, h2⟩ := uncons1 h1
 obtain ⟨x3, l, rfl, h3⟩ := uncons1 h2
 obtain ⟨x4, l, rfl, h4⟩ := uncons1 h3
 obtain ⟨x5, l, rfl, h5⟩ := uncons1 h4
 obtain ⟨x6, l, rfl, h6⟩ := uncons1 h5
 obtain ⟨x7, l, rfl, h7⟩ := uncons1 h6
 obtain ⟨x8, l, rfl, h8⟩ := uncons1 h7
 obtain ⟨x9, l, rfl, h9⟩ := uncons1 h8
 obtain ⟨x10, l, rfl, h10⟩ := uncons1 h9
 obtain rfl : l = [] := List.length_eq_zero_iff.1 h10
 exact ⟨x0, x1, x2, x3, x4, x5, x6, x7, x8, x9, x10, rfl⟩
set_option maxHeartbeats 4000000 in
theorem rp_frame (a : Act) (h : a.tmps.size = 345) (hd : a.defers = []) : ∃ v : Nat → Value, a = ⟨#[v 0, v 1, v 2, v 3, v 4, v 5, v 6, v 7, v 8, v 9, v 10, v 11, v 12, v 13, v 14, v 15, v 16, v 17, v 18, v 19, v 20, v 21, v 22, v 23, v 24, v 25, v 26, v 27, v 28, v 29, v 30, v 31, v 32, v 33, v 34, v 35, v 36, v 37, v 38, v 39, v 40, v 41, v 42, v 43, v 44, v 45, v 46, v 47, v 48, v 49, v 50, v 51, v 52, v 53, v 54, v 55, v 56, v 57, v 58, v 59, v 60, v 61, v 62, v 63, v 64, v 65, v 66, v 67, v 68, v 69, v 70, v 71, v 72, v 73, v 74, v 75, v 76, v 77, v 78, v 79, v 80, v 81, v 82, v 83, v 84, v 85, v 86, v 87, v 88, v 89, v 90, v 91, v 92, v 93, v 94, v 95, v 96, v 97, v 98, v 99, v 100, v 101, v 102, v 103, v 104, v 105, v 106, v 107, v 108, v 109, v 110, v 111, v 112, v 113, v 114, v 115, v 116, v 117, v 118, v 119, v 120, v 121, v 122, v 123, v 124, v 125, v 126, v 127, v 128, v 129, v 130, v 131, v 132, v 133, v 134, v 135, v 136, v 137, v 138, v 139, v 140, v 141, v 142, v 143, v 144, v 145, v 146, v 147, v 148, v 149, v 150, v 151, v 152, v 153, v 154, v 155, v 156, v 157, v 158, v 159, v 160, v 161, v 162, v 163, v 164, v 165, v 166, v 167, v 168, v 169, v 170, v 171, v 172, v 173, v 174, v 175, v 176, v 177, v 178, v 179, v 180, v 181, v 182, v 183, v 184, v 185, v 186, v 187, v 188, v 189, v 190, v 191, v 192, v 193, v 194, v 195, v 196, v 197, v 198, v 199, v 200, v 201, v 202, v 203, v 204, v 205, v 206, v 207, v 208, v 209, v 210, v 211, v 212, v 213, v 214, v 215, v 216, v 217, v 218, v 219, v 220, v 221, v 222, v 223, v 224, v 225, v 226, v 227, v 228, v 229, v 230, v 231, v 232, v 233, v 234, v 235, v 236, v 237, v 238, v 239, v 240, v 241, v 242, v 243, v 244, v 245, v 246, v 247, v 248, v 249, v 250, v 251, v 252, v 253, v 254, v 255, v 256, v 257, v 258, v 259, v 260, v 261, v 262, v 263, v 264, v 265, v 266, v 267, v 268, v 269, v 270, v 271, v 272, v 273, v 274, v 275, v 276, v 277, v 278, v 279, v 280, v 281, v 282, v 283, v 284, v 285, v 286, v 287, v 288, v 289, v 290, v 291, v 292, v 293, v 294, v 295, v 296, v 297, v 298, v 299, v 300, v 301, v 302, v 303, v 304, v 305, v 306, v 307, v 308, v 309, v 310, v 311, v 312, v 313, v 314, v 315, v 316, v 317, v 318, v 319, v 320, v 321, v 322, v 323, v 324, v 325, v 326, v 327, v 328, v 329, v 330, v 331, v 332, v 333, v 334, v 335, v 336, v 337, v 338, v 339, v 340, v 341, v 342, v 343, v 344], []⟩ := by
 obtain ⟨⟨l⟩, d⟩ := a
 obtain rfl : d = [] := hd
 replace h : l.length = 345 := h
 obtain ⟨t0, t1, t2, t3, t4, t5, t6, t7, t8, t9, t10, t11, t12, t13, t14, t15, l, rfl, h0⟩ := ls16 (n := 329) h
 obtain ⟨t16, t17, t18, t19, t20, t21, t22, t23, t24, t25, t26, t27, t28, t29, t30, t31, l, rfl, h16⟩ := ls16 (n := 313) h0
 obtain ⟨t32, t33, t34, t35, t36, t37, t38, t39, t40, t41, t42, t43, t44, t45, t46, t47, l, rfl, h32⟩ := ls16 (n := 297) h16
 obtain ⟨t48, t49, t50, t51, t52, t53, t54, t55, t56, t57, t58, t59, t60, t61, t62, t63, l, rfl, h48⟩ := ls16 (n := 281) h32
 obtain ⟨t64, t65, t66, t67, t68, t69, t70, t71, t72, t73, t74, t75, t76, t77, t78, t79, l, rfl, h64⟩ := ls16 (n := 265) h48
 obtain ⟨t80, t81, t82, t83, t84, t85, t86, t87, t88, t89, t90, t91, t92, t93, t94, t95, l, rfl, h80⟩ := ls16 (n := 249) h64
 obtain ⟨t96, t97, t98, t99, t100, t101, t102, t103, t104, t105, t106, t107, t108, t109, t110, t111, l, rfl, h96⟩ := ls16 (n := 233) h80
 obtain ⟨t112, t113, t114, t115, t116, t117, t118, t119, t120, t121, t122, t123, t124, t125, t126, t127, l, rfl, h112⟩ := ls16 (n := 217) h96
 obtain ⟨t128, t129, t130, t131, t132, t133, t134, t135, t136, t137, t138, t139, t140, t141, t142, t143, l, rfl, h128⟩ := ls16 (n := 201) h112
 obtain ⟨t144, t145, t146, t147, t148, t149, t150, t151, t152, t153, t154, t155, t156, t157, t158, t159, l, rfl, h144⟩ := ls16 (n := 185) h128
 obtain ⟨t160, t161, t162, t163, t164, t165, t166, t167, t168, t169, t170, t171, t172, t173, t174, t175, l, rfl, h160⟩ := ls16 (n := 169) h144
 obtain ⟨t176, t177, t178, t179, t180, t181, t182, t183, t184, t185, t186, t187, t188, t189, t190, t191, l, rfl, h176⟩ := ls16 (n := 153) h160
 obtain ⟨t192, t193, t194, t195, t196, t197, t198, t199, t200, t201, t202, t203, t204, t205, t206, t207, l, rfl, h192⟩ := ls16 (n := 137) h176
 obtain ⟨t208, t209, t210, t211, t212, t213, t214, t215, t216, t217, t218, t219, t220, t221, t222, t223, l, rfl, h208⟩ := ls16 (n := 121) h192
 obtain ⟨t224, t225, t226, t227, t228, t229, t230, t231, t232, t233, t234, t235, t236, t237, t238, t239, l, rfl, h224⟩ := ls16 (n := 105) h208
 obtain ⟨t240, t241, t242, t243, t244, t245, t246, t247, t248, t249, t250, t251, t252, t253, t254, t255, l, rfl, h240⟩ := ls16 (n := 89) h224
 obtain ⟨t256, t257, t258, t259, t260, t261, t262, t263, t264, t265, t266, t267, t268, t269, t270, t271, l, rfl, h256⟩ := ls16 (n := 73) h240
 obtain ⟨t272, t273, t274, t275, t276, t277, t278, t279, t280, t281, t282, t283, t284, t285, t286, t287, l, rfl, h272⟩ := ls16 (n := 57) h256
 obtain ⟨t288, t289, t290, t291, t292, t293, t294, t295, t296, t297, t298, t299, t300, t301, t302, t303, l, rfl, h288⟩ := ls16 (n := 41) h272
 obtain ⟨t304, t305, t306, t307, t308, t309, t310, t311, t312, t313, t314, t315, t316, t317, t318, t319, l, rfl, h304⟩ := ls16 (n := 25) h288
 obtain ⟨t320, t321, t322, t323, t324, t325, t326, t327, t328, t329, t330, t331, t332, t333, t334, t335, l, rfl, h320⟩ := ls16 (n := 9) h304
 obtain ⟨t336, l, rfl, h336⟩ := uncons1 (n := 8) h320
 obtain ⟨t337, l, rfl, h337⟩ := uncons1 (n := 7) h336
 obtain ⟨t338, l, rfl, h338⟩ := uncons1 (n := 6) h337
 obtain ⟨t339, l, rfl, h339⟩ := uncons1 (n := 5) h338
 obtain ⟨t340, l, rfl, h340⟩ := uncons1 (n := 4) h339
 obtain ⟨t341, l, rfl, h341⟩ := uncons1 (n := 3) h340
 obtain ⟨t342, l, rfl, h342⟩ := uncons1 (n := 2) h341
 obtain ⟨t343, l, rfl, h343⟩ := uncons1 (n := 1) h342
 obtain ⟨t344, l, rfl, h344⟩ := uncons1 (n := 0) h343
 obtain rfl : l = [] := List.length_eq_zero_iff.1 h344
 exact ⟨fun i => [t0, t1, t2, t3, t4, t5, t6, t7, t8, t9, t10, t11, t12, t13, t14, t15, t16, t17, t18, t19, t20, t21, t22, t23, t24, t25, t26, t27, t28, t29, t30, t31, t32, t33, t34, t35, t36, t37, t38, t39, t40, t41, t42, t43, t44, t45, t46, t47, t48, t49, t50, t51, t52, t53, t54, t55, t56, t57, t58, t59, t60, t61, t62, t63, t64, t65, t66, t67, t68, t69, t70, t71, t72, t73, t74, t75, t76, t77, t78, t79, t80, t81, t82, t83, t84, t85, t86, t87, t88, t89, t90, t91, t92, t93, t94, t95, t96, t97, t98, t99, t100, t101, t102, t103, t104, t105, t106, t107, t108, t109, t110, t111, t112, t113, t114, t115, t116, t117, t118, t119, t120, t121, t122, t123, t124, t125, t126, t127, t128, t129, t130, t131, t132, t133, t134, t135, t136, t137, t138, t139, t140, t141, t142, t143, t144, t145, t146, t147, t148, t149, t150, t151, t152, t153, t154, t155, t156, t157, t158, t159, t160, t161, t162, t163, t164, t165, t166, t167, t168, t169, t170, t171, t172, t173, t174, t175, t176, t177, t178, t179, t180, t181, t182, t183, t184, t185, t186, t187, t188, t189, t190, t191, t192, t193, t194, t195, t196, t197, t198, t199, t200, t201, t202, t203, t204, t205, t206, t207, t208, t209, t210, t211, t212, t213, t214, t215, t216, t217, t218, t219, t220, t221, t222, t223, t224, t225, t226, t227, t228, t229, t230, t231, t232, t233, t234, t235, t236, t237, t238, t239, t240, t241, t242, t243, t244, t245, t246, t247, t248, t249, t250, t251, t252, t253, t254, t255, t256, t257, t258, t259, t260, t261, t262, t263, t264, t265, t266, t267, t268, t269, t270, t271, t272, t273, t274, t275, t276, t277, t278, t279, t280, t281, t282, t283, t284, t285, t286, t287, t288, t289, t290, t291, t292, t293, t294, t295, t296, t297, t298, t299, t300, t301, t302, t303, t304, t305, t306, t307, t308, t309, t310, t311, t312, t313, t314, t315, t316, t317, t318, t319, t320, t321, t322, t323, t324, t325, t326, t327, t328, t329, t330, t331, t332, t333, t334, t335, t336, t337, t338, t339, t340, t341, t342, t343, t344].getD i undef, rfl⟩
theorem wp_cut_ret {P : Program} {c : Code} {a : Act} {w : World} {K : Act → World → Prop} {Q : Exit → Act → World → Prop} (I : Act → Act → World → Prop) (h : c.wp P (Exit.then (I a) Q) a w) (hk : ∀ a' w', I a a' w' → K a' w') : c.wp P (Exit.then K Q) a w :=
 wp_mono h fun e a' w' he => by
  cases e with
  | normal => exact hk a' w' he
  | _ => exact he
def RParseR (l : List UInt8) (w : World) (e : Ending) (w' : World) : Prop :=
 ∃ c p m A1 n1 c1 A2 n2 c2, e = .returned (.tuple #[.agg (mdC m (.slice A1 n1 c1) (.slice A2 n2 c2)), .int .i64 (c : Nat), .int .i64 (p : Nat)]) ∧ PTold l c p m ∧ ZR sgK w' w'.heap.size A1 n1 c1 m.segs ∧ ZR seK w' w'.heap.size A2 n2 c2 m.secs ∧ Grow w w'
theorem rparse_no {l : List UInt8} {w W : World} {tmps : Array Value} {z c p : Nat} {cs : Array Value} (ht : tmps.getD 2 undef = .pointer (some ⟨z, 0, none⟩)) (h3 : tmps.getD 3 undef = .int .i64 (c : Nat)) (h4 : tmps.getD 4 undef = .int .i64 (p : Nat))
  (hb : Blk W z 32 cs) (hT : PTold l c p mdN) (hg : Grow w W) (hz : w.heap.size ≤ z) : bodyPost Tryz.prog Tryz.f12 (RParseR l w) .ret ⟨tmps, []⟩ (W.setRow z #[.bool false, .bool false, .int .u8 0, .int .u8 0, .int .u16 0, .int .u16 0, .int .u32 0, .int .u64 0, .slice none 0 0, .slice none 0 0, .int .i64 0]) := by
 refine bodyPost_ret (v := .tuple #[.agg #[.bool false, .bool false, .int .u8 0, .int .u8 0, .int .u16 0, .int .u16 0, .int .u32 0, .int .u64 0, .slice none 0 0, .slice none 0 0, .int .i64 0], .int .i64 (c : Nat), .int .i64 (p : Nat)]) ?_ rfl ⟨c, p, mdN, none, 0, 0, none, 0, 0, rfl, hT, ZR.nil, ZR.nil, hg.set hz _⟩
 rw [results_cell_tmp2 rfl, ht, h3, h4]
 simp [asAddr, Result.andThen, (hb.set #[.bool false, .bool false, .int .u8 0, .int .u8 0, .int .u16 0, .int .u16 0, .int .u32 0, .int .u64 0, .slice none 0 0, .slice none 0 0, .int .i64 0]).var _ _ Tryz.underlying32 rfl (by kernel_rfl)]
theorem rparse_yes {l : List UInt8} {w W : World} {tmps : Array Value} {z : Nat} {m : Md} {A1 A2 : Option Addr} {n1 c1 n2 c2 : Nat} (ht : tmps.getD 2 undef = .pointer (some ⟨z, 0, none⟩)) (h3 : tmps.getD 3 undef = .int .i64 0) (h4 : tmps.getD 4 undef = .int .i64 0)
  (hb : Blk W z 32 (mdC m (.slice A1 n1 c1) (.slice A2 n2 c2))) (hT : PTold l 0 0 m) (h1 : ZR sgK W W.heap.size A1 n1 c1 m.segs) (h2 : ZR seK W W.heap.size A2 n2 c2 m.secs) (hg : Grow w W) : bodyPost Tryz.prog Tryz.f12 (RParseR l w) .ret ⟨tmps, []⟩ W := by
 refine bodyPost_ret (v := .tuple #[.agg (mdC m (.slice A1 n1 c1) (.slice A2 n2 c2)), .int .i64 0, .int .i64 0]) ?_ rfl ⟨0, 0, m, A1, n1, c1, A2, n2, c2, rfl, hT, h1, h2, hg⟩
 rw [results_cell_tmp2 rfl, ht, h3, h4]
 simp [asAddr, Result.andThen, hb.var _ _ Tryz.underlying32 rfl (by kernel_rfl)]
theorem where_sh (wide big : Bool) (w : World) : Calls Tryz.prog 32 #[.agg #[.bool wide, .bool big], .int .i64 32, .int .i64 40] w fun e w' => e = .returned (.int .i64 (oSh wide : Nat)) ∧ Grow w w' := (where_any wide big 32 40 w).mono fun e w' h => ⟨by rw [h.1]; cases wide <;> rfl, h.2⟩
theorem where_sn (wide big : Bool) (w : World) : Calls Tryz.prog 32 #[.agg #[.bool wide, .bool big], .int .i64 48, .int .i64 60] w fun e w' => e = .returned (.int .i64 (oSn wide : Nat)) ∧ Grow w w' := (where_any wide big 48 60 w).mono fun e w' h => ⟨by rw [h.1]; cases wide <;> rfl, h.2⟩
theorem where_pn (wide big : Bool) (w : World) : Calls Tryz.prog 32 #[.agg #[.bool wide, .bool big], .int .i64 44, .int .i64 56] w fun e w' => e = .returned (.int .i64 (oPn wide : Nat)) ∧ Grow w w' := (where_any wide big 44 56 w).mono fun e w' h => ⟨by rw [h.1]; cases wide <;> rfl, h.2⟩
theorem where_ph (wide big : Bool) (w : World) : Calls Tryz.prog 32 #[.agg #[.bool wide, .bool big], .int .i64 28, .int .i64 32] w fun e w' => e = .returned (.int .i64 (oPh wide : Nat)) ∧ Grow w w' := (where_any wide big 28 32 w).mono fun e w' h => ⟨by rw [h.1]; cases wide <;> rfl, h.2⟩
theorem where_st (wide big : Bool) (w : World) : Calls Tryz.prog 32 #[.agg #[.bool wide, .bool big], .int .i64 50, .int .i64 62] w fun e w' => e = .returned (.int .i64 (oSt wide : Nat)) ∧ Grow w w' := (where_any wide big 50 62 w).mono fun e w' h => ⟨by rw [h.1]; cases wide <;> rfl, h.2⟩
theorem rFind_all (l : List UInt8) (A : Option Addr) (n c : Nat) (A1 : Option Addr) (c1 : Nat) (off size : Nat) (own : Bool) (w : World) (hr : RB w w.heap.size A n c l) (hz : ZS w w.heap.size 8 A1 (nP l) c1 (pgR l (nP l)))
  (hin : inB n off size = true) (hlen : n ≤ 65536) (hP : nP l ≤ 16) (hoff : off < 18446744073709551616) (hsz : size < 18446744073709551616) :
  Calls Tryz.prog 35 #[.slice A n c, .slice A1 (nP l) c1, .int .u64 (off : Int), .int .u64 (size : Int), .bool own] w (PlaceR (if own then ownPl l off size else findPl l off size) w) := by
 by_cases h0 : size = 0
 ·subst h0
  have e : (if own then ownPl l off 0 else findPl l off 0) = ⟨-1, 0, 0, []⟩ := by cases own <;> rfl
  rw [e]
  exact rFind_zero A n c A1 (nP l) c1 off own w
 ·cases own
  ·exact rFind_any l A n c A1 c1 off size w hr hz hin hlen hP hoff hsz h0
  ·exact rFind_own l A n c A1 (nP l) c1 off size w hr hin hlen h0
section
variable {l : List UInt8}
theorem pt_cnt {c p : Nat} (hle : l.length ≤ 65536) (hT : HTold l 0 0 (hdOf l).V) (h : cntE l = (c, p)) (hc : c ≠ 0) : PTold l c p mdN :=
 .inr (.inr ⟨hle, hT, by unfold restE; rw [if_pos (by rw [h]; exact hc), h], by rw [if_neg hc]⟩)
theorem pt_tab {c p : Nat} (hle : l.length ≤ 65536) (hT : HTold l 0 0 (hdOf l).V) (h0 : (cntE l).1 = 0) (h : tabE l = (c, p)) (hc : c ≠ 0) : PTold l c p mdN :=
 .inr (.inr ⟨hle, hT, by unfold restE; rw [if_neg (by rw [h0]; simp), if_pos (by rw [h]; exact hc), h], by rw [if_neg hc]⟩)
theorem pt_plan (hle : l.length ≤ 65536) (hT : HTold l 0 0 (hdOf l).V) (h0 : (cntE l).1 = 0) (h1 : (tabE l).1 = 0) (h : (mdF l).planC ≠ 0) : PTold l (mdF l).planC 0 mdN :=
 .inr (.inr ⟨hle, hT, by unfold restE; rw [if_neg (by rw [h0]; simp), if_neg (by rw [h1]; simp), if_pos h], by rw [if_neg h]⟩)
theorem pt_ok (hle : l.length ≤ 65536) (hT : HTold l 0 0 (hdOf l).V) (h0 : (cntE l).1 = 0) (h1 : (tabE l).1 = 0) (h : (mdF l).planC = 0) : PTold l 0 0 (mdF l) :=
 .inr (.inr ⟨hle, hT, by unfold restE; rw [if_neg (by rw [h0]; simp), if_neg (by rw [h1]; simp), if_neg (by rw [h]; simp)], by rw [if_pos rfl]⟩)
theorem cnt_get (h1 : (hdOf l).sh ≠ 0) (h2 : ¬ (hdOf l).sh + sSize (lWide l) ≤ l.length) : cntE l = (5, oSh (lWide l)) := by unfold cntE; rw [if_pos ⟨h1, h2⟩]
theorem cnt_sc (h1 : ¬ ((hdOf l).sh ≠ 0 ∧ ¬ (hdOf l).sh + sSize (lWide l) ≤ l.length)) {c p : Nat} (h : scE l = (c, p)) (hc : c ≠ 0) : cntE l = (c, p) := by unfold cntE; rw [if_neg h1, if_pos (by rw [h]; exact hc), h]
theorem cnt_pg (h1 : ¬ ((hdOf l).sh ≠ 0 ∧ ¬ (hdOf l).sh + sSize (lWide l) ≤ l.length)) (h2 : (scE l).1 = 0) {c p : Nat} (h : pgE l = (c, p)) (hc : c ≠ 0) : cntE l = (c, p) := by
 unfold cntE; rw [if_neg h1, if_neg (by rw [h2]; simp), if_pos (by rw [h]; exact hc), h]
theorem cnt_st (h1 : ¬ ((hdOf l).sh ≠ 0 ∧ ¬ (hdOf l).sh + sSize (lWide l) ≤ l.length)) (h2 : (scE l).1 = 0) (h3 : (pgE l).1 = 0) (h : (hdOf l).st = 65535 ∧ (hdOf l).sh = 0) : cntE l = (4, oSt (lWide l)) := by
 unfold cntE; rw [if_neg h1, if_neg (by rw [h2]; simp), if_neg (by rw [h3]; simp), if_pos h]
theorem cnt_zero (h1 : ¬ ((hdOf l).sh ≠ 0 ∧ ¬ (hdOf l).sh + sSize (lWide l) ≤ l.length)) (h2 : (scE l).1 = 0) (h3 : (pgE l).1 = 0) (h : ¬ ((hdOf l).st = 65535 ∧ (hdOf l).sh = 0)) : (cntE l).1 = 0 := by
 unfold cntE; rw [if_neg h1, if_neg (by rw [h2]; simp), if_neg (by rw [h3]; simp), if_neg h]
theorem tab_p {k : Nat} (hk : k < nP l) (h1 : ∀ j, j < k → pBad l j = 0) (h2 : inB l.length (pgs l k).off (pgs l k).fs = false) : tabE l = (5, pAt l k) := by
 have e : pBad l k = pAt l k + 1 := by unfold pBad; rw [h2]; rfl
 have h := fst_range hk h1 (by rw [e]; omega)
 unfold tabE
 rw [if_pos (by rw [h, e]; omega), h, e]
 rfl
theorem tab_s {k : Nat} (hp : ∀ j, j < nP l → pBad l j = 0) (hk : k < nS l - 1) (h1 : ∀ j, j < k → sBad l j = 0) (h2 : inB l.length (scs l (k + 1)).off (scs l (k + 1)).held = false) : tabE l = (5, sAt l (k + 1)) := by
 have e : sBad l k = sAt l (k + 1) + 1 := by unfold sBad; rw [h2]; rfl
 have h := fst_range hk h1 (by rw [e]; omega)
 unfold tabE
 rw [if_neg (by rw [fst_none hp]; simp), if_pos (by rw [h, e]; omega), h, e]
 rfl
theorem tab_ok (hp : ∀ j, j < nP l → pBad l j = 0) (hs : ∀ j, j < nS l - 1 → sBad l j = 0) : (tabE l).1 = 0 := by
 unfold tabE
 rw [if_neg (by rw [fst_none hp]; simp), if_neg (by rw [fst_none hs]; simp)]
theorem inB_iff {len p n : Nat} : inB len p n = decide (n = 0 ∨ p + n ≤ len) := by unfold inB; rw [Bool.decide_or]
end
def hdM (l : List UInt8) (X1 X2 : Value) (st : Int) : Array Value := #[.bool (lWide l), .bool (lBig l), .int .u8 ((l.getD 7 0).toNat : Int), .int .u8 ((l.getD 8 0).toNat : Int), .int .u16 ((hdOf l).ty : Int), .int .u16 ((hdOf l).ma : Int), .int .u32 ((hdOf l).fl : Int), .int .u64 ((hdOf l).en : Int), X1, X2, .int .i64 st]
structure RPB (w W : World) (z h f m s : Nat) (ch cf cm cs : Array Value) : Prop where
 z : Blk W z 32 #[.bool false, .bool false, .int .u8 0, .int .u8 0, .int .u16 0, .int .u16 0, .int .u32 0, .int .u64 0, .slice none 0 0, .slice none 0 0, .int .i64 0]
 h : Blk W h 69 ch
 f : Blk W f 23 cf
 m : Blk W m 32 cm
 s : Blk W s 80 cs
 g : Grow w W
structure RPA (w : World) (z h f m s base : Nat) : Prop where
 b : base = s + 1
 wz : w.heap.size ≤ z
 zh : z < h
 hf : h < f
 fm : f < m
 ms : m < s
section
variable {w W W' : World} {z h f m s base : Nat} {ch cf cm cs : Array Value}
theorem RPB.grow (k : RPB w W z h f m s ch cf cm cs) (hg : Grow W W') : RPB w W' z h f m s ch cf cm cs := ⟨k.z.grow hg, k.h.grow hg, k.f.grow hg, k.m.grow hg, k.s.grow hg, k.g.trans hg⟩
theorem RPB.by_ (k : RPB w W z h f m s ch cf cm cs) (a : RPA w z h f m s base) {row : Option Nat} (hg : W.grownBy W' row) (hr : ∀ k, row = some k → base ≤ k) : RPB w W' z h f m s ch cf cm cs :=
 have key : ∀ g, g ≤ s → some g ≠ row := fun g hl e => by have := hr g e.symm; have := a.b; omega
 have o1 := a.zh
 have o2 := a.hf
 have o3 := a.fm
 have o4 := a.ms
 ⟨k.z.grownBy hg (key _ (by omega)), k.h.grownBy hg (key _ (by omega)), k.f.grownBy hg (key _ (by omega)), k.m.grownBy hg (key _ (by omega)), k.s.grownBy hg (key _ (by omega)),
  k.g.trans' ((Below.refl _ W).grown hg k.g.size fun i hi => by have := hr i hi; have := a.b; have := a.wz; omega)⟩
theorem RPB.setM (k : RPB w W z h f m s ch cf cm cs) (a : RPA w z h f m s base) (cm' : Array Value) : RPB w (W.setRow m cm') z h f m s ch cf cm' cs :=
 have o1 := a.zh
 have o2 := a.hf
 have o3 := a.fm
 have o4 := a.ms
 ⟨k.z.other (by omega) _, k.h.other (by omega) _, k.f.other (by omega) _, k.m.set _, k.s.other (by omega) _, k.g.set (by have := a.wz; omega) _⟩
theorem RPB.setS (k : RPB w W z h f m s ch cf cm cs) (a : RPA w z h f m s base) (cs' : Array Value) : RPB w (W.setRow s cs') z h f m s ch cf cm cs' :=
 have o1 := a.zh
 have o2 := a.hf
 have o3 := a.fm
 have o4 := a.ms
 ⟨k.z.other (by omega) _, k.h.other (by omega) _, k.f.other (by omega) _, k.m.other (by omega) _, k.s.set _, k.g.set (by have := a.wz; omega) _⟩
theorem RPB.base_le (k : RPB w W z h f m s ch cf cm cs) (a : RPA w z h f m s base) : base ≤ W.heap.size := by have := k.s.lt; have := a.b; omega
end
structure RpF (A : Option Addr) (n c z h f m s z2 z3 : Nat) (a : Act) : Prop where
 size : a.tmps.size = 345
 defers : a.defers = []
 t0 : a.tmps.getD 0 undef = .slice A n c
 t2 : a.tmps.getD 2 undef = .pointer (some ⟨z, 0, none⟩)
 t5 : a.tmps.getD 5 undef = .pointer (some ⟨h, 0, none⟩)
 t8 : a.tmps.getD 8 undef = .pointer (some ⟨f, 0, none⟩)
 t9 : a.tmps.getD 9 undef = .int .u64 (n : Int)
 t11 : a.tmps.getD 11 undef = .int .i64 (z2 : Int)
 t12 : a.tmps.getD 12 undef = .int .i64 (z3 : Int)
 t13 : a.tmps.getD 13 undef = .pointer (some ⟨m, 0, none⟩)
 t14 : a.tmps.getD 14 undef = .pointer (some ⟨s, 0, none⟩)
def I10 (l : List UInt8) (A : Option Addr) (n c : Nat) (w : World) (a : Act) (W : World) : Prop :=
 ∃ z h f m s base, RpF A n c z h f m s (pSize (lWide l)) (sSize (lWide l)) a ∧ RPA w z h f m s base ∧ RPB w W z h f m s (hdOf l).C #[.bool (lWide l), .bool (lBig l)] (hdM l (.slice none 0 0) (.slice none 0 0) 0) sc0.C ∧ a.tmps.getD 15 undef = .int .u64 ((hdOf l).sn : Int)
def I11 (l : List UInt8) (A : Option Addr) (n c : Nat) (w : World) (a : Act) (W : World) : Prop :=
 ∃ z h f m s base, RpF A n c z h f m s (pSize (lWide l)) (sSize (lWide l)) a ∧ RPA w z h f m s base ∧ RPB w W z h f m s (hdOf l).C #[.bool (lWide l), .bool (lBig l)] (hdM l (.slice none 0 0) (.slice none 0 0) 0) (fst_ l).C ∧ a.tmps.getD 15 undef = .int .u64 (nS l : Int) ∧
  (scE l).1 = 0 ∧ ¬ ((hdOf l).sh ≠ 0 ∧ ¬ (hdOf l).sh + sSize (lWide l) ≤ l.length)
def I16 (l : List UInt8) (A : Option Addr) (n c : Nat) (w : World) (a : Act) (W : World) : Prop :=
 ∃ z h f m s base, RpF A n c z h f m s (pSize (lWide l)) (sSize (lWide l)) a ∧ RPA w z h f m s base ∧ RPB w W z h f m s (hdOf l).C #[.bool (lWide l), .bool (lBig l)] (hdM l (.slice none 0 0) (.slice none 0 0) 0) (fst_ l).C ∧ a.tmps.getD 15 undef = .int .u64 (nS l : Int) ∧ a.tmps.getD 19 undef = .int .u64 (nP l : Int) ∧
  (scE l).1 = 0 ∧ ¬ ((hdOf l).sh ≠ 0 ∧ ¬ (hdOf l).sh + sSize (lWide l) ≤ l.length) ∧ (pgE l).1 = 0
def I18 (l : List UInt8) (A : Option Addr) (n c : Nat) (w : World) (a : Act) (W : World) : Prop :=
 ∃ z h f m s base, RpF A n c z h f m s (pSize (lWide l)) (sSize (lWide l)) a ∧ RPA w z h f m s base ∧ RPB w W z h f m s (hdOf l).C #[.bool (lWide l), .bool (lBig l)] (hdM l (.slice none 0 0) (.slice none 0 0) (nI l : Int)) (fst_ l).C ∧ a.tmps.getD 15 undef = .int .u64 (nS l : Int) ∧ a.tmps.getD 19 undef = .int .u64 (nP l : Int) ∧ (cntE l).1 = 0
def I20 (l : List UInt8) (A : Option Addr) (n c : Nat) (w : World) (a : Act) (W : World) : Prop :=
 ∃ z h f m s base A1 c1, RpF A n c z h f m s (pSize (lWide l)) (sSize (lWide l)) a ∧ RPA w z h f m s base ∧ RPB w W z h f m s (hdOf l).C #[.bool (lWide l), .bool (lBig l)] (hdM l (.slice none 0 0) (.slice none 0 0) (nI l : Int)) (fst_ l).C ∧ a.tmps.getD 15 undef = .int .u64 (nS l : Int) ∧ (cntE l).1 = 0 ∧
  a.tmps.getD 21 undef = .slice A1 (nP l) c1 ∧ ZO W base 76 8 A1 (nP l) c1 (pgR l (nP l)) ∧ ∀ j, j < nP l → pBad l j = 0
def I21 (l : List UInt8) (A : Option Addr) (n c : Nat) (w : World) (a : Act) (W : World) : Prop :=
 ∃ z h f m s base A1 c1 A2 c2, RpF A n c z h f m s (pSize (lWide l)) (sSize (lWide l)) a ∧ RPA w z h f m s base ∧ RPB w W z h f m s (hdOf l).C #[.bool (lWide l), .bool (lBig l)] (hdM l (.slice A2 (nP l) c2) (.slice none 0 0) (nI l : Int)) (fst_ l).C ∧ a.tmps.getD 15 undef = .int .u64 (nS l : Int) ∧ (cntE l).1 = 0 ∧
  a.tmps.getD 21 undef = .slice A1 (nP l) c1 ∧ ZO W base 76 8 A1 (nP l) c1 (pgR l (nP l)) ∧ (∀ j, j < nP l → pBad l j = 0) ∧ GR sgK W base 56 A2 (nP l) c2 ((List.range (nP l)).map (segF l))
def I22 (l : List UInt8) (A : Option Addr) (n c : Nat) (w : World) (a : Act) (W : World) : Prop :=
 ∃ z h f m s base A2 c2 A3 c3, RpF A n c z h f m s (pSize (lWide l)) (sSize (lWide l)) a ∧ RPA w z h f m s base ∧ RPB w W z h f m s (hdOf l).C #[.bool (lWide l), .bool (lBig l)] (hdM l (.slice A2 (nP l) c2) (.slice A3 (nS l - 1) c3) (nI l : Int)) (fst_ l).C ∧ (cntE l).1 = 0 ∧
  GR sgK W base 56 A2 (nP l) c2 ((List.range (nP l)).map (segF l)) ∧ GR seK W base 58 A3 (nS l - 1) c3 ((List.range (nS l - 1)).map (secF l)) ∧ (tabE l).1 = 0
set_option maxRecDepth 100000
set_option linter.unusedVariables false
set_option maxHeartbeats 20000000 in
theorem rp_A (l : List UInt8) (A : Option Addr) (n c : Nat) (w : World) (hr : RB w w.heap.size A n c l)
  (H : l.length ≤ 65536 → HTold l 0 0 (hdOf l).V → ∀ a W, I10 l A n c w a W → (sufOf 10 (bodyOf Tryz.f12)).wp Tryz.prog (bodyPost Tryz.prog Tryz.f12 (RParseR l w)) a W) :
  Calls Tryz.prog 12 #[.slice A n c] w (RParseR l w) := by
 have hn := hr.len
 have hcp := hr.cap
 have hmx := hr.max
 unfold maxLen at hmx
 by_cases hbig : 65536 < l.length
 ·have HT : Hid (PTold l 8 65536 mdN) := hid (.inl ⟨hbig, rfl, rfl, rfl⟩)
  have d : decide ((65536 : Int) < (n : Int)) = true := decide_eq_true (by omega)
  have d' : decide (65536 < n) = true := decide_eq_true (by omega)
  have HB := hid (Blk.new w 32 #[.bool false, .bool false, .int .u8 0, .int .u8 0, .int .u16 0, .int .u16 0, .int .u32 0, .int .u64 0, .slice none 0 0, .slice none 0 0, .int .i64 0])
  clear hbig hn hr H
  go_enter Tryz.func12, Tryz.ntmps12
  go_wp2_with (refine wpList_store_row rfl 32 (.tmp 2) (.tmp 40) rfl w.heap.size #[.bool false, .bool false, .int .u8 0, .int .u8 0, .int .u16 0, .int .u16 0, .int .u32 0, .int .u64 0, .slice none 0 0, .slice none 0 0, .int .i64 0] rfl rfl _ _ HB.out (by kernel_rfl) rfl (by simp [Value.oneCell']) ?_)
  exact rparse_no (by rfl) (by rfl) (by rfl) HB.out HT.out (Grow.of_alloc _ _) (Nat.le_refl _)
 have hle : l.length ≤ 65536 := by omega
 have HN : Hid (l.length ≤ 65536) := hid hle
 have d : decide ((65536 : Int) < (n : Int)) = false := decide_eq_false (by omega)
 have d' : decide (65536 < n) = false := decide_eq_false (by omega)
 have HHd := hid (fun W (hg : Grow w W) => rGet_any A n c l W (hr.grow hg))
 have HSz : Hid (∀ W, Calls Tryz.prog 20 #[.agg #[.bool (lWide l), .bool (lBig l)]] W fun e w' => e = .returned (.tuple #[.int .i64 (hSize (lWide l) : Nat), .int .i64 (pSize (lWide l) : Nat), .int .i64 (sSize (lWide l) : Nat)]) ∧ Grow W w') := hid (fun W => sizes_any (lWide l) (lBig l) W)
 have HH := hid (H hle)
 have hok := hdOf_ok l
 have hsn := hok.sn
 unfold RGot at HHd
 obtain ⟨hC, hCe⟩ : ∃ C, (hdOf l).C = C := ⟨_, rfl⟩
 have HCe := hid hCe
 have HHC : Hid (hC = #[.bool (lWide l), .bool (lBig l), .int .u8 ((l.getD 7 0).toNat : Int), .int .u8 ((l.getD 8 0).toNat : Int), .int .u16 ((hdOf l).ty : Int), .int .u16 ((hdOf l).ma : Int), .int .u64 ((hdOf l).en : Int), .int .u64 ((hdOf l).ph : Int), .int .u64 ((hdOf l).sh : Int), .int .u32 ((hdOf l).fl : Int), .int .u16 ((hdOf l).pn : Int), .int .u16 ((hdOf l).sn : Int), .int .u16 ((hdOf l).st : Int)]) := hid hCe.symm
 have HVe : Hid ((hdOf l).V = .agg hC) := hid (by rw [← hCe]; rfl)
 have HMe : Hid (hdM l (.slice none 0 0) (.slice none 0 0) 0 = #[.bool (lWide l), .bool (lBig l), .int .u8 ((l.getD 7 0).toNat : Int), .int .u8 ((l.getD 8 0).toNat : Int), .int .u16 ((hdOf l).ty : Int), .int .u16 ((hdOf l).ma : Int), .int .u32 ((hdOf l).fl : Int), .int .u64 ((hdOf l).en : Int), .slice none 0 0, .slice none 0 0, .int .i64 0]) := hid rfl
 have HFin : Hid (HTold l 0 0 (hdOf l).V → ∀ z h f m s a W, RpF A n c z h f m s (pSize (lWide l)) (sSize (lWide l)) a → a.tmps.getD 15 undef = .int .u64 ((hdOf l).sn : Int) →
   RPA w z h f m s (s + 1) → RPB w W z h f m s hC #[.bool (lWide l), .bool (lBig l)] #[.bool (lWide l), .bool (lBig l), .int .u8 ((l.getD 7 0).toNat : Int), .int .u8 ((l.getD 8 0).toNat : Int), .int .u16 ((hdOf l).ty : Int), .int .u16 ((hdOf l).ma : Int), .int .u32 ((hdOf l).fl : Int), .int .u64 ((hdOf l).en : Int), .slice none 0 0, .slice none 0 0, .int .i64 0] sc0.C →
   (sufOf 10 (bodyOf Tryz.f12)).wp Tryz.prog (bodyPost Tryz.prog Tryz.f12 (RParseR l w)) a W) := hid fun hT z h f m s a W e1 e2 ha hb =>
  HH.out hT a W ⟨z, h, f, m, s, s + 1, e1, ha, by rw [HCe.out, HMe.out]; exact hb, e2⟩
 clear hCe hr hbig hle hn H HH HCe HMe hok
 generalize (hdOf l).ty = ty at *
 generalize (hdOf l).ma = ma at *
 generalize (hdOf l).en = en at *
 generalize (hdOf l).ph = ph at *
 generalize (hdOf l).sh = sh at *
 generalize (hdOf l).fl = fl at *
 generalize (hdOf l).pn = pn at *
 generalize (hdOf l).sn = sn at *
 generalize (hdOf l).st = st at *
 generalize (l.getD 7 0).toNat = hO at *
 generalize (l.getD 8 0).toNat = hA at *
 generalize hSize (lWide l) = z1 at *
 generalize pSize (lWide l) = z2 at *
 generalize sSize (lWide l) = z3 at *
 generalize lWide l = wide at *
 generalize lBig l = big at *
 obtain rfl := HHC.out
 clear HHC
 go_enter Tryz.func12, Tryz.ntmps12
 go_wp2_with fail
 generalize hW : World.alloc _ _ = W0
 obtain ⟨b0, hg⟩ := blk1 hW
 clear hW d d'
 have HB := hid b0
 have HG := hid hg
 clear b0 hg
 obtain ⟨z, hz⟩ : ∃ g, g = w.heap.size := ⟨_, rfl⟩
 have HZ : Hid (w.heap.size ≤ z) := hid (Nat.le_of_eq hz.symm)
 rw [← hz] at HB ⊢
 clear hz
 refine (HHd.out _ HG.out).mono ?_
 rintro e w1 ⟨hc, hp, v, rfl, ht, hg⟩
 have HTo := hid ht
 have HB1 := hid (HB.out.grow hg)
 have HG1 : Hid (Grow w w1) := hid (HG.out.trans hg)
 clear ht hg HB HG HHd
 by_cases h0 : hc ≠ 0
 ·have hv := HTo.out.not h0
  have HT : Hid (PTold l hc hp mdN) := hid (.inr (.inl ⟨HN.out, h0, by have := HTo.out; rwa [hv] at this, rfl⟩))
  have d : ((hc : Int) != 0) = true := by simp; omega
  rw [hv]
  unfold Hd.V Hd.C hd0
  have HB2 := hid (HB1.out.grow (Grow.of_alloc w1 (.cells #[.bool false, .bool false, .int .u8 0, .int .u8 0, .int .u16 0, .int .u16 0, .int .u64 0, .int .u64 0, .int .u64 0, .int .u32 0, .int .u16 0, .int .u16 0, .int .u16 0] 69)))
  clear h0 hv HTo HFin
  go_wp2_with (refine wpList_store_row rfl 32 (.tmp 2) (.tmp 49) rfl z #[.bool false, .bool false, .int .u8 0, .int .u8 0, .int .u16 0, .int .u16 0, .int .u32 0, .int .u64 0, .slice none 0 0, .slice none 0 0, .int .i64 0] rfl rfl _ _ HB2.out (by kernel_rfl) rfl (by simp [Value.oneCell']) ?_)
  exact rparse_no (by rfl) (by rfl) (by rfl) HB2.out HT.out (HG1.out.trans (Grow.of_alloc _ _)) HZ.out
 have h0' : hc = 0 := by omega
 obtain ⟨hp0, hv⟩ := HTo.out.zero h0'
 have HT0 : Hid (HTold l 0 0 (hdOf l).V) := hid (by have := HTo.out; rw [h0', hp0, hv] at this; exact this)
 have HFi := hid (HFin.out HT0.out)
 rw [hv, HVe.out, h0', hp0]
 clear h0 h0' hp0 hv HTo HVe HFin HT0
 have hhA := Blk.new w1 69 #[.bool wide, .bool big, .int .u8 (hO : Int), .int .u8 (hA : Int), .int .u16 (ty : Int), .int .u16 (ma : Int), .int .u64 (en : Int), .int .u64 (ph : Int), .int .u64 (sh : Int), .int .u32 (fl : Int), .int .u16 (pn : Int), .int .u16 (sn : Int), .int .u16 (st : Int)]
 obtain ⟨v0, v1, v2, v3, v4, v5, v6, v7, v8, v9, v10, v11, v12⟩ := hhA.c13
 go_wp2_with fail
 clear v0 v1 v2 v3 v4 v5 v6 v7 v8 v9 v10 v11 v12 hhA
 generalize hW : World.alloc _ _ = W2
 obtain ⟨bh, bf, hg⟩ := blk2 hW
 clear hW
 have HHb := hid bh
 have HFb := hid bf
 have HB2 := hid (HB1.out.grow hg)
 have HG2 : Hid (Grow w W2) := hid (HG1.out.trans hg)
 have HZh : Hid (z < w1.heap.size) := hid HB1.out.lt
 have HHf : Hid (w1.heap.size < w1.heap.size + 1) := hid (by omega)
 clear bh bf hg HB1 HG1
 generalize w1.heap.size + 1 = f at HFb HHf ⊢
 generalize w1.heap.size = h at HHb HZh HHf ⊢
 refine (HSz.out _).mono ?_
 rintro e w3 ⟨rfl, hg⟩
 have HH3 := hid (HHb.out.grow hg)
 have HF3 := hid (HFb.out.grow hg)
 have HB3 := hid (HB2.out.grow hg)
 have HG3 : Hid (Grow w w3) := hid (HG2.out.trans hg)
 clear hg HHb HFb HB2 HG2 HSz
 rename_i K hK Kc hKc
 have HK := hid hK
 clear hK
 go_wp2
 apply HK.out
 clear HK
 clear K
 apply wp_seq_k
 intro K hK
 have HK := hid hK
 clear hK
 have hh3 := HH3.out
 obtain ⟨v0, v1, v2, v3, v4, v5, v6, v7, v8, v9, v10, v11, v12⟩ := hh3.c13
 go_wp2
 clear v0 v1 v2 v3 v4 v5 v6 v7 v8 v9 v10 v11 v12 hh3
 generalize hW : World.alloc _ _ = W4
 obtain ⟨bm, hg⟩ := blk1 hW
 clear hW
 have HMb := hid bm
 have HH4 := hid (HH3.out.grow hg)
 have HF4 := hid (HF3.out.grow hg)
 have HB4 := hid (HB3.out.grow hg)
 have HG4 : Hid (Grow w W4) := hid (HG3.out.trans hg)
 have HFm : Hid (f < w3.heap.size) := hid HF3.out.lt
 clear bm hg HH3 HF3 HB3 HG3
 generalize w3.heap.size = m at HMb HFm ⊢
 apply HK.out
 clear HK
 clear K
 apply wp_seq_k
 intro K hK
 have HK := hid hK
 clear hK
 go_wp2
 generalize hW : World.alloc _ _ = W5
 obtain ⟨bs, hg⟩ := blk1 hW
 clear hW
 have HP : Hid (RPB w W5 z h f m W4.heap.size _ _ _ _) := hid ⟨HB4.out.grow hg, HH4.out.grow hg, HF4.out.grow hg, HMb.out.grow hg, bs, HG4.out.trans hg⟩
 have HA : Hid (RPA w z h f m W4.heap.size (W4.heap.size + 1)) := hid ⟨rfl, HZ.out, HZh.out, HHf.out, HFm.out, HMb.out.lt⟩
 clear bs hg HB4 HH4 HF4 HMb HG4 HZ HZh HHf HFm
 generalize W4.heap.size = s at HP HA ⊢
 apply HK.out
 clear HK
 clear K
 apply wp_seq_k
 intro K hK
 have HK := hid hK
 clear hK
 have s8 := HP.out.h.at 11
 have e1 : IntKind.u64.wrap (sn : Int) = (sn : Int) := by rw [IntKind.wrap_u64]; omega
 go_wp2
 clear s8 e1
 apply HK.out
 exact HFi.out z h f m s _ _ ⟨rfl, rfl, rfl, rfl, rfl, rfl, rfl, rfl, rfl, rfl, rfl⟩ rfl HA.out HP.out
end Go.Proofs.YtlccbekalccahaaGreatDoor
