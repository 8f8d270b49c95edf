/-
  The contract of rel.read: the relocation of just as many bytes as one has.
-/
import Derived.Test.YtkgjebkjpcpoaaaReA
import Derived.Test.YtkgjebkjpcpoaaaWireGet
import Derived.Lib.SmallJoins
namespace Go.Proofs.Ytkgjebkjpcpoaaa
open Go.RowKit

/-- The number that stands there. -/
def reG (l : List UInt8) (wide big : Bool) (q : Nat) : Nat := getB ((l.drop q).take (reW wide)) big
theorem reG_lt (l : List UInt8) (wide big : Bool) (q : Nat) : reG l wide big q < reM wide := by
  rw [← reM_pow]
  refine Nat.lt_of_lt_of_le (getB_lt _ big) (Nat.pow_le_pow_right (by decide) ?_)
  simp only [List.length_take]
  omega
theorem reOf_G (l : List UInt8) (wide adds big : Bool) : reOf l 0 wide adds big = ⟨reG l wide big 0, reG l wide big (reW wide) / reK wide, reG l wide big (reW wide) % reK wide, if adds then sg wide (reG l wide big (2 * reW wide)) else 0⟩ := by
  have e : nums l big 0 (reRow wide adds) = (if adds then [reG l wide big 0, reG l wide big (reW wide), reG l wide big (2 * reW wide)] else [reG l wide big 0, reG l wide big (reW wide)]) := by
    cases adds
    · simp [nums, reRow, reG]
    · simp [nums, reRow, reG, Nat.two_mul]
  rw [reOf, e, ofN_of]

theorem Below.setRow' {B g : Nat} (W : World) (hg : B ≤ g) (cs : Array Value) : Below B W (W.setRow g cs) := ⟨rfl, rfl, rfl, by simp, fun k hk => setRow_other W g k cs (by omega)⟩

set_option maxRecDepth 100000 in
set_option maxHeartbeats 400000 in
theorem eRead_any (A : Option Addr) (n c : Nat) (l : List UInt8) (wide adds big : Bool) (w : World) (h : RB w w.heap.size A n c l) (hn : n = reSize wide adds) :
    Calls Try.prog 21 #[.slice A n c, .agg #[.bool wide, .bool big], .bool adds] w fun e w' => e = .returned (reOf l 0 wide adds big).V ∧ Grow w w' := by
  have HR := Lib.hid h
  have hl := h.len
  clear h
  have HGet : Hid (∀ (q : Nat) (w' : World), RB w' w.heap.size A n c l → q + reW wide ≤ n → Calls Try.prog 30 #[.slice A n c, .int .u64 q, .int .i64 (reW wide : Nat), .bool big] w' fun e w2 =>
      e = .returned (.tuple #[.int .u64 (reG l wide big q : Nat), .bool true]) ∧ Grow w' w2) := Lib.hid fun q w' h hq => by
    have hg : gotB l q (reW wide : Nat) = true := by
      simp only [gotB, reW_wid, Bool.true_and, wthn]
      exact decide_eq_true (by omega)
    have hv : gotV l q (reW wide : Nat) big = reG l wide big q := by
      simp only [gotV, hg, if_true, Int.toNat_natCast, reG]
    refine (get_any A n c l _ q (reW wide : Nat) big w' h (by omega)).mono fun e w2 ⟨he, m, hw⟩ => ?_
    rw [hg, hv] at he
    exact ⟨he, by rw [hw]; exact Grow.of_drewN _ _⟩
  have hx1 := reG_lt l wide big (reW wide)
  have hx2 := reG_lt l wide big (2 * reW wide)
  rw [reOf_G]
  have h2 : 2 * reW wide ≤ n := by rw [hn]; cases adds <;> simp only [reSize, reN, if_true, Bool.false_eq_true, if_false] <;> omega
  have h3 : adds = true → 3 * reW wide ≤ n := by rintro rfl; rw [hn]; exact Nat.le_refl _
  have hw8 : reW wide ≤ 8 := by cases wide <;> decide
  have HW := Lib.hid (fun w => reW_any wide big w)
  have HBi := Lib.hid (fun w => reBits_any wide big w)
  have HSg := Lib.hid (fun v hv w => reSg_any wide big v hv w)
  generalize reG l wide big = G at HGet hx1 hx2 ⊢
  generalize reW wide = wd at HGet HW h2 h3 hw8 hx1 hx2 ⊢
  have H3 := Lib.hid h3
  clear hn hl h3
  have HG0 : Hid (∀ (w' : World), RB w' w.heap.size A n c l → Calls Try.prog 30 #[.slice A n c, .int .u64 0, .int .i64 (wd : Nat), .bool big] w' fun e w2 => e = .returned (.tuple #[.int .u64 (G 0 : Nat), .bool true]) ∧ Grow w' w2) :=
    Lib.hid fun w' h => HGet.out 0 w' h (by omega)
  have HG1 := Lib.hid fun w' h => HGet.out wd w' h (by omega)
  have HG2 := Lib.hid fun w' h (ha : adds = true) => HGet.out (2 * wd) w' h (by have := H3.out ha; omega)
  generalize G 0 = x0 at HG0 ⊢
  generalize G wd = x1 at HG1 hx1 ⊢
  generalize G (2 * wd) = x2 at HG2 hx2 ⊢
  obtain ⟨s, hs⟩ : ∃ s, s = x1 / reK wide := ⟨_, rfl⟩
  obtain ⟨t, ht⟩ : ∃ t, t = x1 % reK wide := ⟨_, rfl⟩
  rw [← hs, ← ht]
  have Hs := Lib.hid hs
  have Ht := Lib.hid ht
  have Hx1 := Lib.hid hx1
  clear hs ht hx1
  have HSg2 : Hid (adds = true → ∀ w, Calls Try.prog 31 #[.int .u64 x2, .agg #[.bool wide, .bool big]] w fun e w' => e = .returned (.int .i64 (if adds then sg wide x2 else 0)) ∧ Grow w w') :=
    Lib.hid (by rintro rfl; exact fun w => HSg.out x2 hx2 w)
  have HA0 : Hid (adds = false → (if adds then sg wide x2 else 0) = 0) := Lib.hid (by rintro rfl; rfl)
  generalize (if adds then sg wide x2 else 0) = ad at HSg2 HA0 ⊢
  have z1 : IntKind.u64.wrap (wd : Int) = (wd : Int) := by rw [IntKind.wrap_u64]; omega
  have z2 : IntKind.i64.wrap (2 * (wd : Int)) = ((2 * wd : Nat) : Int) := by rw [IntKind.wrap_i64]; omega
  have z3 : IntKind.u64.wrap (2 * (wd : Int)) = ((2 * wd : Nat) : Int) := by rw [IntKind.wrap_u64]; omega
  have Z2 := Lib.hid z2
  have Z3 := Lib.hid z3
  clear HGet H3 HSg h2 hw8 hx2 z2 z3
  go_enter Try.func21, Try.ntmps21
  go_wp2_with fail
  generalize hW : World.alloc _ _ = W0
  obtain ⟨bf, b4, hg0⟩ := blk2 hW
  have HBF0 := Lib.hid bf
  have HB40 := Lib.hid b4
  have HG0' := Lib.hid hg0
  clear hW bf b4 hg0
  refine (HW.out W0).mono ?_
  rintro e w1 ⟨rfl, hg1⟩
  have HBF1 := Lib.hid (HBF0.out.grow hg1)
  have HB41 := Lib.hid (HB40.out.grow hg1)
  have HGr1 : Hid (Grow w w1) := HG0'.out.trans hg1
  clear hg1 HBF0 HB40 HG0'
  obtain ⟨f0, f1⟩ := HBF1.out.c2
  go_wp2_with fail
  clear f0 f1
  refine (HG0.out _ (HR.out.belowAt HGr1.out (Nat.le_refl _))).mono ?_
  rintro e w2 ⟨rfl, hg2⟩
  have HBF2 := Lib.hid (HBF1.out.grow hg2)
  have HB42 := Lib.hid (HB41.out.grow hg2)
  have HGr2 : Hid (Grow w w2) := HGr1.out.trans hg2
  clear hg2 HBF1 HB41 HGr1 HG0
  obtain ⟨f0, f1⟩ := HBF2.out.c2
  go_wp2_with fail
  clear f0 f1 z1
  refine (HG1.out _ (HR.out.belowAt HGr2.out (Nat.le_refl _))).mono ?_
  rintro e w3 ⟨rfl, hg3⟩
  have HBF3 := Lib.hid (HBF2.out.grow hg3)
  have HB43 := Lib.hid (HB42.out.grow hg3)
  have HGr3 : Hid (Grow w w3) := HGr2.out.trans hg3
  clear hg3 HBF2 HB42 HGr2 HG1
  obtain ⟨f0, f1⟩ := HBF3.out.c2
  go_wp2_with fail
  clear f0 f1
  refine (HBi.out _).mono ?_
  rintro e w4 ⟨rfl, hg4⟩
  have HBF4 := Lib.hid (HBF3.out.grow hg4)
  have HB44 := Lib.hid (HB43.out.grow hg4)
  have HGr4 : Hid (Grow w w4) := HGr3.out.trans hg4
  clear hg4 HBF3 HB43 HGr3
  go_wp2_with fail
  have hsz5 : w.heap.size + 1 + 1 ≤ w4.heap.size := HB44.out.lt
  refine wp_region_leap (leap_below (w.heap.size + 1 + 1)) [(0, true), (1, true), (2, true), (3, true), (4, true), (5, true), (6, true), (7, true), (8, true), (9, true), (10, true), (11, true), (12, false), (13, false)] (by kernel_rfl) (by kernel_rfl) (by kernel_rfl) ?_
  have HBF5 := Lib.hid HBF4.out.drew
  have HB45 := Lib.hid HB44.out.drew
  have HGr5 : Hid (Grow w w4.drew) := HGr4.out.trans (Grow.of_drew _)
  have HSz5 : Hid (w.heap.size + 1 + 1 ≤ w4.drew.heap.size) := hsz5
  generalize w4.drew = w5 at HBF5 HB45 HGr5 HSz5 ⊢
  clear HBF4 HB44 HGr4 hsz5
  have hs := Hs.out
  have ht := Ht.out
  have hx1 := Hx1.out
  clear Hs Ht Hx1
  cases wide
  case' false =>
    rw [show ((byWide false 8 32 : Nat) : Int) = 8 from rfl]
    rw [show reK false = 256 from rfl] at hs ht
    rw [show reM false = 4294967296 from rfl] at hx1
    have y1 : IntKind.u32.wrap ((x1 : Int) / 256) = (s : Int) := by rw [IntKind.wrap_u32]; omega
    have y2 : IntKind.u64.wrap 256 = 256 := by rw [IntKind.wrap_u64]; rfl
    have y3 : IntKind.u64.wrap 255 = 255 := by rw [IntKind.wrap_u64]; rfl
    have y4 : bits BinOp.and IntKind.u64 (x1 : Int) 255 = (t : Int) := by
      have := bits_and_u64_nat x1 255 (by omega) (by omega)
      rw [show x1 &&& 255 = x1 % 256 from Nat.and_two_pow_sub_one_eq_mod x1 8, ← ht] at this
      exact this
    have y5 : IntKind.u32.wrap (t : Int) = (t : Int) := by rw [IntKind.wrap_u32]; omega
  case' true =>
    rw [show ((byWide true 8 32 : Nat) : Int) = 32 from rfl]
    rw [show reK true = 4294967296 from rfl] at hs ht
    rw [show reM true = 18446744073709551616 from rfl] at hx1
    have y1 : IntKind.u32.wrap ((x1 : Int) / 4294967296) = (s : Int) := by rw [IntKind.wrap_u32]; omega
    have y2 : IntKind.u64.wrap 4294967296 = 4294967296 := by rw [IntKind.wrap_u64]; rfl
    have y3 : IntKind.u64.wrap 4294967295 = 4294967295 := by rw [IntKind.wrap_u64]; rfl
    have y4 : bits BinOp.and IntKind.u64 (x1 : Int) 4294967295 = (t : Int) := by
      have := bits_and_u64_nat x1 4294967295 (by omega) (by omega)
      rw [show x1 &&& 4294967295 = x1 % 4294967296 from Nat.and_two_pow_sub_one_eq_mod x1 32, ← ht] at this
      exact this
    have y5 : IntKind.u32.wrap (t : Int) = (t : Int) := by rw [IntKind.wrap_u32]; omega
  all_goals
    clear hs ht hx1
    repeat (refine chain_take rfl (by rfl) ?_ (fun W hG => ?_) ?_; rotate_left; (go_simp; rfl); simp only [Act.put, List.setIfInBounds_toArray, List.set_cons_zero, List.set_cons_succ])
    clear y1 y2 y3 y4 y5
    refine chain_only rfl (by rfl) (fun K hK => ?_)
    go_simp
    refine hK _ _ (Below.alloc (Below.refl _ _) HSz5.out _) ?_
    clear hK K
    have HB6 := Lib.hid (HBF5.out.alloc (.cells #[.int .u64 0, .int .u32 0, .int .u32 0, .int .i64 0] 47))
    have HB46 := Lib.hid (HB45.out.alloc (.cells #[.int .u64 0, .int .u32 0, .int .u32 0, .int .i64 0] 47))
    have HR6 := Lib.hid (Blk.new w5 47 #[.int .u64 0, .int .u32 0, .int .u32 0, .int .i64 0])
    have HG6 : Hid (Grow w (w5.alloc (.cells #[.int .u64 0, .int .u32 0, .int .u32 0, .int .i64 0] 47))) := HGr5.out.trans (Grow.of_alloc _ _)
    generalize w5.alloc _ = w6 at HB6 HB46 HR6 HG6 ⊢
    generalize w5.heap.size = g8 at HR6 HSz5 ⊢
    clear HBF5 HB45 HGr5
    refine chain_only rfl (by rfl) (fun K hK => ?_)
    refine wp_store_row 47 (.tmp 13) (.tmp 49) rfl g8 #[.int .u64 (x0 : Int), .int .u32 (s : Int), .int .u32 (t : Int), .int .i64 0] rfl rfl _ _ HR6.out (by kernel_rfl) rfl (by simp [Value.oneCell']) ?_
    refine hK _ _ (Below.setRow' _ HSz5.out _) ?_
    clear hK K
    have HR7 := Lib.hid (HR6.out.set #[.int .u64 (x0 : Int), .int .u32 (s : Int), .int .u32 (t : Int), .int .i64 0])
    have HB7 := Lib.hid (HB6.out.other (show w.heap.size ≠ g8 by have := HSz5.out; omega) #[.int .u64 (x0 : Int), .int .u32 (s : Int), .int .u32 (t : Int), .int .i64 0])
    have HB47 := Lib.hid (HB46.out.other (show w.heap.size + 1 ≠ g8 by have := HSz5.out; omega) #[.int .u64 (x0 : Int), .int .u32 (s : Int), .int .u32 (t : Int), .int .i64 0])
    have HG7 : Hid (Grow w (w6.setRow g8 #[.int .u64 (x0 : Int), .int .u32 (s : Int), .int .u32 (t : Int), .int .i64 0])) := Grow.set HG6.out (by have := HSz5.out; omega) _
    generalize w6.setRow g8 _ = w7 at HR7 HB7 HB47 HG7 ⊢
    clear HR6 HB6 HB46 HG6
    refine chain_done ?_
    cases adds
    · obtain rfl := HA0.out (by first | rfl | trivial)
      have HG8 : Hid (Grow w (w7.setRow (w.heap.size + 1) #[.int .u64 (x0 : Int), .int .u32 (s : Int), .int .u32 (t : Int), .int .i64 0])) := Grow.set HG7.out (Nat.le_succ _) _
      have HB48 := Lib.hid (HB47.out.set #[.int .u64 (x0 : Int), .int .u32 (s : Int), .int .u32 (t : Int), .int .i64 0])
      go_wp2_with (first | (refine wpList_load_row rfl 47 (.tmp 13) rfl g8 rfl _ #[.int .u64 (x0 : Int), .int .u32 (s : Int), .int .u32 (t : Int), .int .i64 0] (0, 0) _ HR7.out Try.underlying47 rfl (by kernel_rfl) ?_) | (refine wpList_store_row rfl 47 (.tmp 6) (.tmp 66) rfl (w.heap.size + 1) #[.int .u64 (x0 : Int), .int .u32 (s : Int), .int .u32 (t : Int), .int .i64 0] rfl rfl _ _ HB47.out (by kernel_rfl) rfl (by simp [Value.oneCell']) ?_))
      refine bodyPost_ret (results_cell_row (cs := #[.int .u64 (x0 : Int), .int .u32 (s : Int), .int .u32 (t : Int), .int .i64 0]) rfl _ _ (w.heap.size + 1) _ (0, 0) _ rfl HB48.out Try.underlying47 rfl (by kernel_rfl)) rfl ?_
      exact ⟨rfl, HG8.out⟩
    · obtain ⟨f0, f1⟩ := HB7.out.c2
      have z2 := Z2.out
      have z3 := Z3.out
      go_wp2_with fail
      clear f0 f1 z2 z3
      refine (HG2.out _ (HR.out.belowAt HG7.out (Nat.le_refl _)) (by first | rfl | trivial)).mono ?_
      rintro e w8 ⟨rfl, hg8⟩
      have HR8 := Lib.hid (HR7.out.grow hg8)
      have HB8 := Lib.hid (HB7.out.grow hg8)
      have HB48 := Lib.hid (HB47.out.grow hg8)
      have HG8 : Hid (Grow w w8) := HG7.out.trans hg8
      clear hg8 HR7 HB7 HB47 HG7
      obtain ⟨f0, f1⟩ := HB8.out.c2
      go_wp2_with fail
      clear f0 f1
      refine (HSg2.out (by first | rfl | trivial) _).mono ?_
      rintro e w9 ⟨rfl, hg9⟩
      have HR9 := Lib.hid (HR8.out.grow hg9)
      have HB49 := Lib.hid (HB48.out.grow hg9)
      have HG9 : Hid (Grow w w9) := HG8.out.trans hg9
      clear hg9 HR8 HB8 HB48 HG8
      have y3 := HR9.out.at 3
      simp at y3
      have f3 := HR9.out.soft 3
      have hb := Joins.block_setCell (i := 3) HR9.out (.int .i64 ad)
      simp at hb
      have HR10 : Hid (Blk (w9.setCell ⟨g8, 3, none⟩ (.int .i64 ad)) g8 47 #[.int .u64 (x0 : Int), .int .u32 (s : Int), .int .u32 (t : Int), .int .i64 ad]) := hb
      have HB410 := Lib.hid (HB49.out.cellset (a := ⟨g8, 3, none⟩) (show w.heap.size + 1 ≠ g8 by have := HSz5.out; omega) (.int .i64 ad))
      have HG10 : Hid (Grow w (w9.setCell ⟨g8, 3, none⟩ (.int .i64 ad))) := Grow.cellset HG9.out (by have := HSz5.out; omega) _ _
      have HG11 : Hid (Grow w ((w9.setCell ⟨g8, 3, none⟩ (.int .i64 ad)).setRow (w.heap.size + 1) #[.int .u64 (x0 : Int), .int .u32 (s : Int), .int .u32 (t : Int), .int .i64 ad])) := Grow.set HG10.out (Nat.le_succ _) _
      have HB411 := Lib.hid (HB410.out.set #[.int .u64 (x0 : Int), .int .u32 (s : Int), .int .u32 (t : Int), .int .i64 ad])
      clear hb HSg2 HA0
      go_wp2_with (first | (refine wpList_load_row rfl 47 (.tmp 13) rfl g8 rfl _ #[.int .u64 (x0 : Int), .int .u32 (s : Int), .int .u32 (t : Int), .int .i64 ad] (0, 0) _ HR10.out Try.underlying47 rfl (by kernel_rfl) ?_) | (refine wpList_store_row rfl 47 (.tmp 6) (.tmp 66) rfl (w.heap.size + 1) #[.int .u64 (x0 : Int), .int .u32 (s : Int), .int .u32 (t : Int), .int .i64 ad] rfl rfl _ _ HB410.out (by kernel_rfl) rfl (by simp [Value.oneCell']) ?_))
      refine bodyPost_ret (results_cell_row (cs := #[.int .u64 (x0 : Int), .int .u32 (s : Int), .int .u32 (t : Int), .int .i64 ad]) rfl _ _ (w.heap.size + 1) _ (0, 0) _ rfl HB411.out Try.underlying47 rfl (by kernel_rfl)) rfl ?_
      exact ⟨rfl, HG11.out⟩
end Go.Proofs.Ytkgjebkjpcpoaaa
