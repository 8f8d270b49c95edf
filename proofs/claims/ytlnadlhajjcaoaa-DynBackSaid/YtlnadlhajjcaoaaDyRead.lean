/-
  The contract of dyn.read: the entry of just as many bytes as one has.
-/
import Derived.Test.YtlnadlhajjcaoaaDyA
import Derived.Test.YtlnadlhajjcaoaaWireGet
import Derived.Lib.SmallJoins
namespace Go.Proofs.Ytlnadlhajjcaoaa
open Go.RowKit

set_option maxRecDepth 100000 in
set_option maxHeartbeats 400000 in
theorem dRead_any (A : Option Addr) (n c : Nat) (l : List UInt8) (wide big : Bool) (w : World) (h : RB w w.heap.size A n c l) (hn : n = dySize wide) :
    Calls Try.prog 21 #[.slice A n c, .agg #[.bool wide, .bool big]] w fun e w' => e = .returned (dyOf l 0 wide big).V ∧ Grow w w' := by
  have HR := Lib.hid h
  have hl := h.len
  clear h
  have HGet : Hid (∀ (q : Nat) (w' : World), RB w' w.heap.size A n c l → q + dyW wide ≤ n → Calls Try.prog 27 #[.slice A n c, .int .u64 q, .int .i64 (dyW wide : Nat), .bool big] w' fun e w2 =>
      e = .returned (.tuple #[.int .u64 (dyG l wide big q : Nat), .bool true]) ∧ Grow w' w2) := Lib.hid fun q w' h hq => by
    have hg : gotB l q (dyW wide : Nat) = true := by
      simp only [gotB, dyW_wid, Bool.true_and, wthn]
      exact decide_eq_true (by omega)
    have hv : gotV l q (dyW wide : Nat) big = dyG l wide big q := by
      simp only [gotV, hg, if_true, Int.toNat_natCast, dyG]
    refine (get_any A n c l _ q (dyW wide : Nat) big w' h (by omega)).mono fun e w2 ⟨he, m, hw⟩ => ?_
    rw [hg, hv] at he
    exact ⟨he, by rw [hw]; exact Grow.of_drewN _ _⟩
  have hO : (dyOf l 0 wide big).V = .agg #[.int .u64 (dyG l wide big 0 : Nat), .int .u64 (dyG l wide big (dyW wide) : Nat)] := by
    simp only [dyOf, Dy.V, Dy.C, Nat.zero_add]
  rw [hO]
  have h2 : dyW wide + dyW wide ≤ n := by rw [hn, dySize]; omega
  have hw8 := dyW_le wide
  have HW := Lib.hid (fun w => dyW_any wide big w)
  generalize dyG l wide big = G at HGet ⊢
  generalize dyW wide = wd at HGet HW h2 hw8 ⊢
  clear hn hl hO
  have HG0 : Hid (∀ (w' : World), RB w' w.heap.size A n c l → Calls Try.prog 27 #[.slice A n c, .int .u64 0, .int .i64 (wd : Nat), .bool big] w' fun e w2 => e = .returned (.tuple #[.int .u64 (G 0 : Nat), .bool true]) ∧ Grow w' w2) :=
    Lib.hid fun w' h => HGet.out 0 w' h (by omega)
  have HG1 := Lib.hid fun w' h => HGet.out wd w' h (by omega)
  generalize G 0 = x0 at HG0 ⊢
  generalize G wd = x1 at HG1 ⊢
  have z1 : IntKind.u64.wrap (wd : Int) = (wd : Int) := by rw [IntKind.wrap_u64]; omega
  clear HGet h2 hw8
  go_enter Try.func21, Try.ntmps21
  go_wp2_with fail
  generalize hW : World.alloc _ _ = W0
  obtain ⟨bf, b4, hg0⟩ := blk2 hW
  have HBF0 := Lib.hid bf
  have HB40 := Lib.hid b4
  have HG0' := Lib.hid hg0
  clear hW bf b4 hg0
  refine (HW.out W0).mono ?_
  rintro e w1 ⟨rfl, hg1⟩
  have HBF1 := Lib.hid (HBF0.out.grow hg1)
  have HB41 := Lib.hid (HB40.out.grow hg1)
  have HGr1 : Hid (Grow w w1) := HG0'.out.trans hg1
  clear hg1 HBF0 HB40 HG0'
  obtain ⟨f0, f1⟩ := HBF1.out.c2
  go_wp2_with fail
  clear f0 f1
  refine (HG0.out _ (HR.out.belowAt HGr1.out (Nat.le_refl _))).mono ?_
  rintro e w2 ⟨rfl, hg2⟩
  have HBF2 := Lib.hid (HBF1.out.grow hg2)
  have HB42 := Lib.hid (HB41.out.grow hg2)
  have HGr2 : Hid (Grow w w2) := HGr1.out.trans hg2
  clear hg2 HBF1 HB41 HGr1 HG0
  obtain ⟨f0, f1⟩ := HBF2.out.c2
  go_wp2_with fail
  clear f0 f1 z1
  refine (HG1.out _ (HR.out.belowAt HGr2.out (Nat.le_refl _))).mono ?_
  rintro e w3 ⟨rfl, hg3⟩
  have HB43 := Lib.hid (HB42.out.grow hg3)
  have HGr3 : Hid (Grow w w3) := HGr2.out.trans hg3
  clear hg3 HBF2 HB42 HGr2 HG1
  have HG8 : Hid (Grow w (w3.setRow (w.heap.size + 1) #[.int .u64 (x0 : Int), .int .u64 (x1 : Int)])) := Grow.set HGr3.out (Nat.le_succ _) _
  have HB48 := Lib.hid (HB43.out.set #[.int .u64 (x0 : Int), .int .u64 (x1 : Int)])
  go_wp2_with (refine wpList_store_row rfl 46 (.tmp 4) (.tmp 32) rfl (w.heap.size + 1) #[.int .u64 (x0 : Int), .int .u64 (x1 : Int)] rfl rfl _ _ HB43.out (by kernel_rfl) rfl (by simp [Value.oneCell']) ?_)
  refine bodyPost_ret (results_cell_row (cs := #[.int .u64 (x0 : Int), .int .u64 (x1 : Int)]) rfl _ _ (w.heap.size + 1) _ (0, 0) _ rfl HB48.out Try.underlying46 rfl (by kernel_rfl)) rfl ?_
  exact ⟨rfl, HG8.out⟩
end Go.Proofs.Ytlnadlhajjcaoaa
