/-
  The contract of ver.aux: the aux at a place.
-/
import Derived.Test.YtfnaigeakfgpbaaVeGet
import Derived.Test.YtfnaigeakfgpbaaVeMem
import Derived.Test.YtfnaigeakfgpbaaFork3
namespace Go.Proofs.Ytfnaigeakfgpbaa
open Go.RowKit

theorem Below.setRowV {B g : Nat} (W : World) (hg : B ≤ g) (cs : Array Value) : Below B W (W.setRow g cs) := ⟨rfl, rfl, rfl, by simp, fun k hk => setRow_other W g k cs (by omega)⟩

set_option maxHeartbeats 1000000 in
theorem vaux_any (A : Option Addr) (n c : Nat) (l : List UInt8) (a : Nat) (big : Bool) (w : World) (h : RB w w.heap.size A n c l) (hq : a + 16 ≤ n) :
    Calls Try.prog 41 #[.agg #[.slice A n c, .bool big], .int .u64 a] w fun e w' => e = .returned (.agg (vmN.pr (vePt vkN (vG l big) a))) ∧ Grow w w' := by
  have hmx := h.max
  have hcp := h.cap
  unfold maxLen at hmx
  have HRB : ∀ w', Grow w w' → RB w' w'.heap.size A n c l := fun w' hg => (h.belowAt hg (Nat.le_refl _)).more hg.size
  have HC0 := Lib.hid fun w' (hg : Grow w w') => vget_any A n c l a 4 big w' (HRB w' hg) (by omega) (.inr rfl)
  have HC1 := Lib.hid fun w' (hg : Grow w w') => vget_any A n c l (a + 4) 2 big w' (HRB w' hg) (by omega) (.inl rfl)
  have HC2 := Lib.hid fun w' (hg : Grow w w') => vget_any A n c l (a + 6) 2 big w' (HRB w' hg) (by omega) (.inl rfl)
  have HC3 := Lib.hid fun w' (hg : Grow w w') => vget_any A n c l (a + 8) 4 big w' (HRB w' hg) (by omega) (.inr rfl)
  have hE : vmN.pr (vePt vkN (vG l big) a) = #[.int .u32 (vG l big a 4 : Nat), .int .u16 (vG l big (a + 4) 2 : Nat), .int .u16 (vG l big (a + 6) 2 : Nat), .int .u32 (vG l big (a + 8) 4 : Nat)] := rfl
  rw [hE]
  have k0 := vG_lt4 l big a
  have k1 := vG_lt2 l big (a + 4)
  have k2 := vG_lt2 l big (a + 6)
  have k3 := vG_lt4 l big (a + 8)
  generalize vG l big a 4 = x0 at HC0 k0 ⊢
  generalize vG l big (a + 4) 2 = x1 at HC1 k1 ⊢
  generalize vG l big (a + 6) 2 = x2 at HC2 k2 ⊢
  generalize vG l big (a + 8) 4 = x3 at HC3 k3 ⊢
  obtain ⟨a4, e4⟩ : ∃ q, q = a + 4 := ⟨_, rfl⟩
  obtain ⟨a6, e6⟩ : ∃ q, q = a + 6 := ⟨_, rfl⟩
  obtain ⟨a8, e8⟩ : ∃ q, q = a + 8 := ⟨_, rfl⟩
  have z1 : IntKind.u64.wrap ((a : Int) + 4) = (a4 : Int) := by rw [IntKind.wrap_u64]; omega
  have z2 : IntKind.u64.wrap ((a : Int) + 6) = (a6 : Int) := by rw [IntKind.wrap_u64]; omega
  have z3 : IntKind.u64.wrap ((a : Int) + 8) = (a8 : Int) := by rw [IntKind.wrap_u64]; omega
  rw [← e4] at HC1
  rw [← e6] at HC2
  rw [← e8] at HC3
  have y0 : IntKind.u32.wrap (x0 : Int) = (x0 : Int) := by rw [IntKind.wrap_u32]; omega
  have y1 : IntKind.u16.wrap (x1 : Int) = (x1 : Int) := by rw [IntKind.wrap_u16]; omega
  have y2 : IntKind.u16.wrap (x2 : Int) = (x2 : Int) := by rw [IntKind.wrap_u16]; omega
  have y3 : IntKind.u32.wrap (x3 : Int) = (x3 : Int) := by rw [IntKind.wrap_u32]; omega
  clear hmx hcp HRB h hq hE k0 k1 k2 k3 e4 e6 e8
  go_enter Try.func41, Try.ntmps41
  go_wp2_with fail
  generalize hW : World.alloc _ _ = W0
  obtain ⟨bf, b4, hg0⟩ := blk2 hW
  clear hW
  refine wp_region_leap (leap_below (w.heap.size + 1)) [(0, true), (1, true), (4, true), (5, true), (6, true), (9, true), (10, true), (11, true), (14, true), (15, true), (16, true), (2, false), (3, true), (7, false), (8, true), (12, false), (13, true), (17, false), (18, true), (19, true), (20, false)] (by kernel_rfl) (by kernel_rfl) (by kernel_rfl) ?_
  have HX : Hid (∀ W, Below (w.heap.size + 1) W0.drew W → _ ∧ _) := fun W hW => ((bf.drew).below hW (Nat.lt_succ_self _)).c2
  have HBF1 := Lib.hid bf.drew
  have HRB1 := Lib.hid b4.drew
  have HG1 : Hid (Grow w W0.drew) := hg0.trans (Grow.of_drew _)
  generalize W0.drew = w1 at HX HBF1 HRB1 HG1 ⊢
  clear bf b4 hg0
  repeat (refine chain_take rfl (by rfl) ?_ (fun W hG => ?_) ?_; rotate_left; (obtain ⟨q1, q2⟩ := HX.out W hG; go_simp; rfl); simp only [Act.put, List.setIfInBounds_toArray, List.set_cons_zero, List.set_cons_succ])
  clear HX z1 z2 z3
  refine chain_only rfl (by rfl) (fun K hK => ?_)
  go_simp
  refine (HC0.out _ HG1.out).mono ?_
  rintro e w2 ⟨rfl, hg2⟩
  refine hK _ _ (hg2.mono HBF1.out.lt) ?_
  clear hK K
  have HBF2 := Lib.hid (HBF1.out.grow hg2)
  have HRB2 := Lib.hid (HRB1.out.grow hg2)
  have HG2 : Hid (Grow w w2) := HG1.out.trans hg2
  clear hg2 HBF1 HRB1 HG1 HC0
  repeat (refine chain_take rfl (by rfl) ?_ (fun W hG => ?_) ?_; rotate_left; (go_simp; rfl); simp only [Act.put, List.setIfInBounds_toArray, List.set_cons_zero, List.set_cons_succ])
  refine chain_only rfl (by rfl) (fun K hK => ?_)
  go_simp
  refine (HC1.out _ HG2.out).mono ?_
  rintro e w3 ⟨rfl, hg3⟩
  refine hK _ _ (hg3.mono HBF2.out.lt) ?_
  clear hK K
  have HBF3 := Lib.hid (HBF2.out.grow hg3)
  have HRB3 := Lib.hid (HRB2.out.grow hg3)
  have HG3 : Hid (Grow w w3) := HG2.out.trans hg3
  clear hg3 HBF2 HRB2 HG2 HC1
  repeat (refine chain_take rfl (by rfl) ?_ (fun W hG => ?_) ?_; rotate_left; (go_simp; rfl); simp only [Act.put, List.setIfInBounds_toArray, List.set_cons_zero, List.set_cons_succ])
  refine chain_only rfl (by rfl) (fun K hK => ?_)
  go_simp
  refine (HC2.out _ HG3.out).mono ?_
  rintro e w4 ⟨rfl, hg4⟩
  refine hK _ _ (hg4.mono HBF3.out.lt) ?_
  clear hK K
  have HBF4 := Lib.hid (HBF3.out.grow hg4)
  have HRB4 := Lib.hid (HRB3.out.grow hg4)
  have HG4 : Hid (Grow w w4) := HG3.out.trans hg4
  clear hg4 HBF3 HRB3 HG3 HC2
  repeat (refine chain_take rfl (by rfl) ?_ (fun W hG => ?_) ?_; rotate_left; (go_simp; rfl); simp only [Act.put, List.setIfInBounds_toArray, List.set_cons_zero, List.set_cons_succ])
  refine chain_only rfl (by rfl) (fun K hK => ?_)
  go_simp
  refine (HC3.out _ HG4.out).mono ?_
  rintro e w5 ⟨rfl, hg5⟩
  refine hK _ _ (hg5.mono HBF4.out.lt) ?_
  clear hK K
  have HBF5 := Lib.hid (HBF4.out.grow hg5)
  have HRB5 := Lib.hid (HRB4.out.grow hg5)
  have HG5 : Hid (Grow w w5) := HG4.out.trans hg5
  clear hg5 HBF4 HRB4 HG4 HC3
  repeat (refine chain_take rfl (by rfl) ?_ (fun W hG => ?_) ?_; rotate_left; (go_simp; rfl); simp only [Act.put, List.setIfInBounds_toArray, List.set_cons_zero, List.set_cons_succ])
  have HSt := Lib.hid (HRB5.out.set #[.int .u32 (x0 : Int), .int .u16 (x1 : Int), .int .u16 (x2 : Int), .int .u32 (x3 : Int)])
  have HGs : Hid (Grow w (w5.setRow (w.heap.size + 1) #[.int .u32 (x0 : Int), .int .u16 (x1 : Int), .int .u16 (x2 : Int), .int .u32 (x3 : Int)])) := Grow.set HG5.out (Nat.le_succ _) _
  refine chain_only rfl (by rfl) (fun K hK => ?_)
  refine wp_store_row 68 (.tmp 4) (.tmp 24) rfl (w.heap.size + 1) #[.int .u32 (x0 : Int), .int .u16 (x1 : Int), .int .u16 (x2 : Int), .int .u32 (x3 : Int)] rfl rfl _ _ HRB5.out (by kernel_rfl) rfl (by simp [Value.oneCell']) ?_
  refine hK _ _ (Below.setRowV _ (Nat.le_refl _) _) ?_
  clear hK K
  refine chain_done ?_
  go_wp2_with fail
  refine bodyPost_ret (results_cell_row (cs := #[.int .u32 (x0 : Int), .int .u16 (x1 : Int), .int .u16 (x2 : Int), .int .u32 (x3 : Int)]) rfl _ _ (w.heap.size + 1) _ (0, 0) _ rfl HSt.out Try.underlying68 rfl (by kernel_rfl)) rfl ?_
  exact ⟨rfl, HGs.out⟩
end Go.Proofs.Ytfnaigeakfgpbaa
