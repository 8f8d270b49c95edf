/-
  The walk of bezantlaw03.IdentTells: at any file's beginning and any bytes it returns true, and nothing that was there has changed.
-/
import Derived.Test.YthlgdpofhjclhaaUp3
import Derived.Test.YthlgdpofhjclhaaConv
namespace Go.Proofs.Ythlgdpofhjclhaa
open Go.RowKit

theorem faultN_le (k : Nat) (v : UInt8) : faultN k v ≤ 4 := by
  unfold faultN
  split <;> split <;> first | omega | (split <;> omega)

theorem Told.le {l : List UInt8} {c p : Nat} (h : Told l c p) : c ≤ 4 ∧ p ≤ l.length := by
  rcases h with ⟨rfl, rfl, _⟩ | ⟨rfl, rfl, _⟩ | ⟨_, _, _, h1, rfl⟩
  · omega
  · omega
  · exact ⟨faultN_le _ _, by omega⟩

theorem idOf_agg (l : List UInt8) (c : Nat) : ∃ (P Q : Bool) (R S : Int), idOf l c = .agg #[.bool P, .bool Q, .int .u8 R, .int .u8 S] := by
  unfold idOf
  split <;> exact ⟨_, _, _, _, rfl⟩

/-- The four cells of a block, in every world that has only grown. -/
theorem four (w : World) (a b c d : Value) (t : TypeId) : ∀ W, Grow (w.alloc (.cells #[a, b, c, d] t)) W →
    W.cell? ⟨w.heap.size, 0, none⟩ = some a ∧ W.cell? ⟨w.heap.size, 1, none⟩ = some b ∧ W.cell? ⟨w.heap.size, 2, none⟩ = some c ∧ W.cell? ⟨w.heap.size, 3, none⟩ = some d := fun W h => by
  refine ⟨?_, ?_, ?_, ?_⟩ <;> rw [Below.cell h (by simp)] <;> simp

set_option maxHeartbeats 1000000 in
theorem identTells_core (wide big : Bool) (o a : UInt8) (A : Option Addr) (n c : Nat) (l : List UInt8) (w : World) (h : RB w w.heap.size A n c l) :
    Calls Try.prog 3 #[idV wide big o a, .slice A n c] w fun e w' => e = .returned (.bool true) ∧ Below w.heap.size w w' := by
  have HR := Lib.hid h
  have hc := h.cap
  have hm := h.max
  unfold maxLen at hm
  have HL := Lib.hid h.len
  clear h
  have HX := Lib.hid (four w (.bool wide) (.bool big) (.int .u8 (o.toNat : Int)) (.int .u8 (a.toNat : Int)) 25)
  have HG0 := Lib.hid (Grow.of_alloc w (.cells #[.bool wide, .bool big, .int .u8 (o.toNat : Int), .int .u8 (a.toNat : Int)] 25))
  have HP := Lib.hid (fun W => idPut_any wide big o a W)
  have HQ := Lib.hid (fun W => refIdent_any wide big o a W)
  have HV := Lib.hid (fun (w : World) (ob : Obj) (t : TypeId) => RB.put w ob wide big o a t)
  unfold idV at HP HQ ⊢
  generalize idC wide big o a = C at HP HQ HV
  generalize idL wide big o a = L at HV
  generalize (o.toNat : Int) = ov at HX HG0 HP HQ ⊢
  generalize (a.toNat : Int) = av at HX HG0 HP HQ ⊢
  by_cases hbig : 10000 < n
  · go_enter Try.func3, Try.ntmps3
    go_wp2_with (go_at_call 5; refine (up3_any _).mono ?_; rintro e w1 ⟨rfl, hb1⟩; have HB := Lib.hid hb1; clear hb1)
    go_ret
    exact ⟨rfl, HG0.out.trans HB.out⟩
  · have hd : decide (10000 < (n : Int)) = false := decide_eq_false (by omega)
    go_enter Try.func3, Try.ntmps3
    go_wp2_with fail
    refine (up3_any _).mono ?_
    rintro e w1 ⟨rfl, hb1⟩
    have HB1 := Lib.hid hb1
    have HG1 : Hid (Grow w w1) := HG0.out.trans hb1
    clear hb1
    go_wp2_with fail
    refine (idGet_any A n c l _ ((HR.out.belowAt HG1.out (Nat.le_refl _)).more HG1.out.size)).mono ?_
    rintro e w2 ⟨cd, p, err, rfl, ht, he, hb2⟩
    have HT := Lib.hid ht
    have HE := Lib.hid he
    have HB2 := Lib.hid (HB1.out.trans hb2)
    have HG2 : Hid (Grow w w2) := HG1.out.trans hb2
    clear ht he hb2 HB1 HG1
    obtain ⟨P, Q, R, S, hX⟩ := idOf_agg l cd
    have HI := Lib.hid hX
    rw [hX]
    clear hX
    go_wp2_with fail
    refine (refGetIdent_any A n c l _ ((HR.out.belowAt (HG2.out.trans (Grow.of_alloc _ _)) (Nat.le_refl _)).more (HG2.out.trans (Grow.of_alloc _ _)).size)).mono ?_
    rintro e w3 ⟨cd', p', rfl, ht, hb3⟩
    obtain ⟨rfl, rfl⟩ := HT.out.one ht
    have HY : Hid (∀ W, Grow w3 W → _) := fun W h => four w2 (.bool P) (.bool Q) (.int .u8 R) (.int .u8 S) 25 W (hb3.trans h)
    have HB3 := Lib.hid ((HB2.out.trans (Grow.of_alloc _ _)).trans hb3)
    have HG3 : Hid (Grow w w3) := (HG2.out.trans (Grow.of_alloc _ _)).trans hb3
    have HE3 := Lib.hid (HE.out.grow ((Grow.of_alloc _ _).trans hb3))
    clear ht hb3 HB2 HG2 HE
    rw [HI.out]
    go_wp2_with fail
    have hle := HT.out.le
    have hln := HL.out
    refine (spot_any err cd p _ (HE3.out.grow (Grow.of_alloc _ _)) (by omega) (by omega)).mono ?_
    rintro e w4 ⟨rfl, hb4⟩
    have HZ : Hid (∀ W, Grow w4 W → _) := fun W h => four w3 (.bool P) (.bool Q) (.int .u8 R) (.int .u8 S) 25 W (hb4.trans h)
    have HB4 := Lib.hid ((HB3.out.trans (Grow.of_alloc _ _)).trans hb4)
    have HY4 : Hid (∀ W, Grow w4 W → _) := fun W h => HY.out W ((Grow.of_alloc _ _).trans (hb4.trans h))
    have HG4 : Hid (Grow w w4) := (HG3.out.trans (Grow.of_alloc _ _)).trans hb4
    clear hb4 HB3 HG3 HE3 HY hle hln
    go_wp2_with fail
    have HX4 : Hid (∀ W, Grow w4 W → _) := fun W h => HX.out W (HB4.out.trans h)
    refine wp_region_chain [(0, true), (1, true), (2, true), (5, true), (3, false), (4, true), (6, false), (7, true), (8, true), (9, true), (10, true), (11, true), (12, true), (13, true), (14, true), (15, true), (16, true), (17, true), (18, true), (19, true), (20, true), (21, true), (22, true), (23, true), (24, true), (25, true)] (by kernel_rfl) (by kernel_rfl) (by kernel_rfl) ?_
    have G5 : Hid (Grow w4 w4.drew) := Grow.of_drew w4
    generalize w4.drew = w5 at G5 ⊢
    repeat (refine chain_take rfl (by rfl) ?_ (fun W hG => ?_) ?_; rotate_left; (obtain ⟨x0, x1, x2, x3⟩ := HX4.out W (G5.out.trans hG); obtain ⟨y0, y1, y2, y3⟩ := HY4.out W (G5.out.trans hG); obtain ⟨z0, z1, z2, z3⟩ := HZ.out W (G5.out.trans hG); go_simp; rfl); simp only [Act.put, List.setIfInBounds_toArray, List.set_cons_zero, List.set_cons_succ])
    refine chain_only rfl (by rfl) (fun K hK => ?_)
    go_simp
    refine (HP.out _).mono ?_
    rintro e w6 ⟨rfl, ob, hw6⟩
    have hb6 : Grow w5 w6 := by rw [hw6]; exact (Grow.of_alloc _ _).trans (Grow.of_alloc _ _)
    have hs6 : RB w6 w6.heap.size (some ⟨w5.heap.size + 1, 0, none⟩) 16 16 L := by rw [hw6]; exact (HV.out _ _ _).more (by simp)
    have HS6 := Lib.hid (hs6.conv (Nat.le_refl _))
    refine hK _ _ hb6 ?_
    clear hK K
    have G6 : Hid (Grow w4 w6) := G5.out.trans hb6
    clear hw6 hs6 hb6
    repeat (refine chain_take rfl (by rfl) ?_ (fun W hG => ?_) ?_; rotate_left; (have hs := HS6.out W hG; obtain ⟨x0, x1, x2, x3⟩ := HX4.out W (G6.out.trans hG); obtain ⟨y0, y1, y2, y3⟩ := HY4.out W (G6.out.trans hG); obtain ⟨z0, z1, z2, z3⟩ := HZ.out W (G6.out.trans hG); go_simp; rfl); simp only [Act.put, List.setIfInBounds_toArray, List.set_cons_zero, List.set_cons_succ])
    refine chain_only rfl (by rfl) (fun K hK => ?_)
    go_simp
    refine (HQ.out _).mono ?_
    rintro e w7 ⟨rfl, ob', hw7⟩
    have hb7 : Grow w6 w7 := by rw [hw7]; exact (Grow.of_alloc _ _).trans (Grow.of_alloc _ _)
    have hs7 : RB w7 w7.heap.size (some ⟨w6.heap.size + 1, 0, none⟩) 16 16 L := by rw [hw7]; exact (HV.out _ _ _).more (by simp)
    have HS7 := Lib.hid (hs7.conv (Nat.le_refl _))
    refine hK _ _ hb7 ?_
    clear hK K
    have G7 : Hid (Grow w4 w7) := G6.out.trans hb7
    clear hw7 hs7 hb7
    repeat (refine chain_take rfl (by rfl) ?_ (fun W hG => ?_) ?_; rotate_left; (have hs := HS7.out W hG; obtain ⟨x0, x1, x2, x3⟩ := HX4.out W (G7.out.trans hG); obtain ⟨y0, y1, y2, y3⟩ := HY4.out W (G7.out.trans hG); obtain ⟨z0, z1, z2, z3⟩ := HZ.out W (G7.out.trans hG); go_simp; rfl); simp only [Act.put, List.setIfInBounds_toArray, List.set_cons_zero, List.set_cons_succ])
    refine chain_done ?_
    go_wp2
    go_ret
    exact ⟨rfl, HG4.out.trans G7.out⟩
end Go.Proofs.Ythlgdpofhjclhaa
