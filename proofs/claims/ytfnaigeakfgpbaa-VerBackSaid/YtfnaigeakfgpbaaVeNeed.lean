/-
  The contract of ver.need: the need at a place, its auxs at places.
-/
import Derived.Test.YtfnaigeakfgpbaaVeDef
namespace Go.Proofs.Ytfnaigeakfgpbaa
open Go.RowKit

theorem list12 {l0 : List Value} (h0 : l0.length = 12) : ∃ x0 x1 x2 x3 x4 x5 x6 x7 x8 x9 x10 x11, l0 = [x0, x1, x2, x3, x4, x5, x6, x7, x8, x9, x10, x11] := by
  match l0, h0 with
  | [x0, x1, x2, x3, x4, x5, x6, x7, x8, x9, x10, x11], _ => exact ⟨_, _, _, _, _, _, _, _, _, _, _, _, rfl⟩

theorem makeN (N : Nat) (h : N ≤ 65535) (w : World) : (Instr.makeSlice 56 (.int .i64 (N : Int)) (.int .i64 (N : Int))).run Try.prog w = .ok (.slice (some ⟨w.heap.size, 0, none⟩) N N)
    (w.alloc (.cells (madeCells #[.int .u32 0, .int .u16 0, .int .u16 0, .int .u32 0] (N * 4)) 68)) := by
  have hinfo : (Try.prog.info? 68).map (fun i => (i.zero, i.size, i.bytes)) = some (some (.agg #[.int .u32 0, .int .u16 0, .int .u16 0, .int .u32 0]), 4, 12) := by kernel_rfl
  obtain ⟨i, hi, hz, hs, hby⟩ := info_parts hinfo
  have := run_make (P := Try.prog) w 56 68 i _ Try.underlying56 hi hz .i64 .i64 (N : Int) (N : Int) (by omega) (by omega) (by rw [hby]; omega) (by omega)
  rw [hs, show (Value.agg #[.int .u32 0, .int .u16 0, .int .u16 0, .int .u32 0]).cells = #[.int .u32 0, .int .u16 0, .int .u16 0, .int .u32 0] from rfl] at this
  simpa using this

set_option maxRecDepth 100000 in
set_option maxHeartbeats 2000000 in
theorem vneed_any (A : Option Addr) (n c : Nat) (l : List UInt8) (a : Nat) (big : Bool) (A2 : Option Addr) (n2 c2 : Nat) (ps : List Nat) (w : World) (h : RB w w.heap.size A n c l) (hp : NS w w.heap.size .u64 A2 n2 c2 ps) (hq : a + 16 ≤ n) (hk : ∀ k ∈ ps, k + 16 ≤ n) (hl : ps.length ≤ 65535) :
    Calls Try.prog 30 #[.agg #[.slice A n c, .bool big], .int .u64 a, .slice A2 n2 c2] w (VTell vmN (veOf vkN (vG l big) (a, ps)) w) := by
  have hmx := h.max
  have hcp := h.cap
  unfold maxLen at hmx
  have HRBs : ∀ w', Grow w w' → RB w' w'.heap.size A n c l := fun w' hg => (h.belowAt hg (Nat.le_refl _)).more hg.size
  have HC0 := Lib.hid fun w' (hg : Grow w w') => vget_any A n c l (a + 4) 4 big w' (HRBs w' hg) (by omega) (.inr rfl)
  have HCk := Lib.hid fun q w' (hq : q ∈ ps) (hg : Grow w w') => vaux_any A n c l q big w' (HRBs w' hg) (by have := hk q hq; omega)
  have hE : veOf vkN (vG l big) (a, ps) = ⟨[vG l big (a + 4) 4], ps.map (vePt vkN (vG l big))⟩ := rfl
  rw [hE]
  have k0 := vG_lt4 l big (a + 4)
  generalize vG l big (a + 4) 4 = x0 at HC0 k0 ⊢
  generalize vePt vkN (vG l big) = P0 at HCk ⊢
  obtain ⟨F, hF⟩ : ∃ F : Nat → Array Value, F = fun q => vmN.pr (P0 q) := ⟨_, rfl⟩
  have HFs : Hid (∀ q, (F q).size = 4 ∧ (F q).all (·.oneCell') = true) := Lib.hid fun q => by rw [hF]; exact VM.Is.row (.inr rfl) _
  have HFe := Lib.hid hF
  have HM0 : Hid (∀ q w', q ∈ ps → Grow w w' → Calls Try.prog 41 #[.agg #[.slice A n c, .bool big], .int .u64 q] w' fun e w2 => e = .returned (.agg (F q)) ∧ Grow w' w2) := Lib.hid (by rw [hF]; exact HCk.out)
  obtain ⟨a4, e4⟩ : ∃ q, q = a + 4 := ⟨_, rfl⟩
  have z1 : IntKind.u64.wrap ((a : Int) + 4) = (a4 : Int) := by rw [IntKind.wrap_u64]; omega
  rw [← e4] at HC0
  have y0 : IntKind.u32.wrap (x0 : Int) = (x0 : Int) := by rw [IntKind.wrap_u32]; omega
  have hn2 := hp.len
  have hcp2 := hp.cap
  have hmx2 := hp.max
  unfold maxLen at hmx2
  have HN := Lib.hid hp
  have HNl := Lib.hid hn2
  have hn2' : n2 ≤ 65535 := by omega
  clear hmx hcp HRBs h hq hE k0 e4 hp hk hl hn2 HCk hF
  go_enter Try.func30, Try.ntmps30
  go_wp2_with fail
  generalize hW : World.alloc _ _ = W0
  obtain ⟨bf, b4, hg0⟩ := blk2 hW
  have hBs : w.heap.size + 2 ≤ W0.heap.size := b4.lt
  clear hW
  refine wp_cut (fun a a' w' => ∃ g8 gN, a' = ⟨(a.tmps.toList.take 7 ++ (a'.tmps.toList.drop 7).take 12 ++ a.tmps.toList.drop 19).toArray, a.defers⟩ ∧ ((a'.tmps.toList.drop 7).take 12).length = 12 ∧ ((a'.tmps.toList.drop 7).take 12).head? = some (.pointer (some ⟨g8, 0, none⟩)) ∧ w.heap.size + 2 ≤ g8 ∧ w.heap.size + 2 ≤ gN ∧ g8 ≠ gN ∧
    Blk w' g8 58 #[.int .u32 (x0 : Int), .slice (some ⟨gN, 0, none⟩) n2 n2] ∧ Half w' gN 68 4 n2 [] ∧ Blk w' w.heap.size 70 #[.slice A n c, .bool big] ∧ Blk w' (w.heap.size + 1) 58 #[.int .u32 0, .slice none 0 0] ∧ Grow w w') ?_ ?_
  · refine wp_region_tq (leap_below (w.heap.size + 2)) (.chain [(0, true), (1, true), (2, true), (5, true), (6, true)] (.three 3 (.chain [(4, true)] (.both 7 (.chain [(8, true), (9, false), (10, false)] .done) 9 (.chain [(7, false), (8, true), (10, false)] .done))) 7 (.both 3 (.chain [(4, true), (8, true), (9, false), (10, false)] .done) 9 (.chain [(3, false), (4, true), (8, true), (10, false)] .done)) 9 (.both 3 (.chain [(4, true), (7, false), (8, true), (10, false)] .done) 7 (.chain [(3, false), (4, true), (8, true), (10, false)] .done)))) (by kernel_rfl) (by kernel_rfl) (by kernel_rfl) ?_
    refine tq_chain ?_
    have HX : Hid (∀ W, Below (w.heap.size + 2) W0.drew W → _ ∧ _) := fun W hW => ((bf.drew).below hW (by omega)).c2
    have HBF1 := Lib.hid bf.drew
    have HRB1 := Lib.hid b4.drew
    have HG1 : Hid (Grow w W0.drew) := hg0.trans (Grow.of_drew _)
    have HBs1 : Hid (w.heap.size + 2 ≤ W0.drew.heap.size) := Lib.hid hBs
    generalize W0.drew = w1 at HX HBF1 HRB1 HG1 HBs1 ⊢
    clear bf b4 hg0 hBs HM0 HFs HFe HN HNl hcp2 hmx2
    repeat (refine chain_take rfl (by rfl) ?_ (fun W hG => ?_) ?_; rotate_left; (obtain ⟨q1, q2⟩ := HX.out W hG; go_simp; rfl); simp only [Act.put, List.setIfInBounds_toArray, List.set_cons_zero, List.set_cons_succ])
    clear HX z1
    refine chain_done (tq_three (step_op rfl (by rfl) (fun K hK => ?_)) (step_op rfl (by rfl) (fun K hK => ?_)) (step_op rfl (by rfl) (fun K hK => ?_)))
    · go_simp
      refine (HC0.out _ HG1.out).mono ?_
      rintro e w2 ⟨rfl, hg2⟩
      refine hK _ _ (hg2.mono HBs1.out) ?_
      clear hK K
      have HBF2 := Lib.hid (HBF1.out.grow hg2)
      have HRB2 := Lib.hid (HRB1.out.grow hg2)
      have HG2 : Hid (Grow w w2) := HG1.out.trans hg2
      have HBs2 : Hid (w.heap.size + 2 ≤ w2.heap.size) := Lib.hid (Nat.le_trans HBs1.out hg2.size)
      clear hg2 HBF1 HRB1 HG1 HBs1
      refine tq_chain ?_
      repeat (refine chain_take rfl (by rfl) ?_ (fun W hG => ?_) ?_; rotate_left; (go_simp; rfl); simp only [Act.put, List.setIfInBounds_toArray, List.set_cons_zero, List.set_cons_succ])
      refine chain_done (tq_both (step_op rfl (by rfl) (fun K hK => ?_)) (step_op rfl (by rfl) (fun K hK => ?_)))
      · have mk := makeN n2 hn2' w2
        go_simp
        refine hK _ _ (Below.alloc (Below.refl _ _) HBs2.out _) ?_
        clear hK K
        have HBF3 := Lib.hid (HBF2.out.alloc (.cells (madeCells #[.int .u32 0, .int .u16 0, .int .u16 0, .int .u32 0] (n2 * 4)) 68))
        have HRB3 := Lib.hid (HRB2.out.alloc (.cells (madeCells #[.int .u32 0, .int .u16 0, .int .u16 0, .int .u32 0] (n2 * 4)) 68))
        have HG3 : Hid (Grow w (w2.alloc (.cells (madeCells #[.int .u32 0, .int .u16 0, .int .u16 0, .int .u32 0] (n2 * 4)) 68))) := HG2.out.trans (Grow.of_alloc _ _)
        have HBs3 : Hid (w.heap.size + 2 ≤ (w2.alloc (.cells (madeCells #[.int .u32 0, .int .u16 0, .int .u16 0, .int .u32 0] (n2 * 4)) 68)).heap.size) := Lib.hid (Nat.le_trans HBs2.out (Grow.of_alloc _ _).size)
        have HH3 := Lib.hid (Half.new w2 68 n2 4 (madeCells #[.int .u32 0, .int .u16 0, .int .u16 0, .int .u32 0] (n2 * 4)) (size_madeCells _ _))
        have HGn : Hid (w.heap.size + 2 ≤ w2.heap.size) := HBs2
        clear mk
        generalize w2.alloc _ = w3 at HBF3 HRB3 HG3 HBs3 HH3 ⊢
        generalize w2.heap.size = gN at HH3 HGn ⊢
        clear HBF2 HRB2 HG2 HBs2
        refine tq_chain ?_
        repeat (refine chain_take rfl (by rfl) ?_ (fun W hG => ?_) ?_; rotate_left; (go_simp; rfl); simp only [Act.put, List.setIfInBounds_toArray, List.set_cons_zero, List.set_cons_succ])
        refine chain_only rfl (by rfl) (fun K hK => ?_)
        go_simp
        refine hK _ _ (Below.alloc (Below.refl _ _) HBs3.out _) ?_
        clear hK K
        have HBF4 := Lib.hid (HBF3.out.alloc (.cells #[.int .u32 0, .slice none 0 0] 58))
        have HRB4 := Lib.hid (HRB3.out.alloc (.cells #[.int .u32 0, .slice none 0 0] 58))
        have HG4 : Hid (Grow w (w3.alloc (.cells #[.int .u32 0, .slice none 0 0] 58))) := HG3.out.trans (Grow.of_alloc _ _)
        have HBs4 : Hid (w.heap.size + 2 ≤ (w3.alloc (.cells #[.int .u32 0, .slice none 0 0] 58)).heap.size) := Lib.hid (Nat.le_trans HBs3.out (Grow.of_alloc _ _).size)
        have HD4 := Lib.hid (Blk.new w3 58 #[.int .u32 0, .slice none 0 0])
        have HGe : Hid (w.heap.size + 2 ≤ w3.heap.size) := HBs3
        have HH4 := Lib.hid (HH3.out.grow (Grow.of_alloc w3 (.cells #[.int .u32 0, .slice none 0 0] 58)))
        have HNe : Hid (w3.heap.size ≠ gN) := Lib.hid (by have := HH3.out.lt; omega)
        generalize w3.alloc _ = w4 at HBF4 HRB4 HG4 HBs4 HD4 HH4 ⊢
        generalize w3.heap.size = g8 at HD4 HGe HNe ⊢
        clear HBF3 HRB3 HG3 HBs3 HH3
        repeat (refine chain_take rfl (by rfl) ?_ (fun W hG => ?_) ?_; rotate_left; (go_simp; rfl); simp only [Act.put, List.setIfInBounds_toArray, List.set_cons_zero, List.set_cons_succ])
        refine chain_only rfl (by rfl) (fun K hK => ?_)
        refine wp_store_row 58 (.tmp 7) (.tmp 18) rfl g8 #[.int .u32 (x0 : Int), .slice (some ⟨gN, 0, none⟩) n2 n2] rfl rfl _ _ HD4.out (by kernel_rfl) rfl (by simp [Value.oneCell']) ?_
        refine hK _ _ (Below.setRowV _ HGe.out _) ?_
        clear hK K
        refine chain_done (tq_done ?_)
        have hge := HGe.out
        have hne := HNe.out
        exact ⟨rfl, g8, gN, rfl, rfl, rfl, hge, HGn.out, hne, HD4.out.set _, HH4.out.other (fun e => hne e.symm) _, HBF4.out.other (by omega) _, HRB4.out.other (by omega) _, Grow.set HG4.out (by omega) _⟩
      · go_simp
        refine hK _ _ (Below.alloc (Below.refl _ _) HBs2.out _) ?_
        clear hK K
        have HBF3 := Lib.hid (HBF2.out.alloc (.cells #[.int .u32 0, .slice none 0 0] 58))
        have HRB3 := Lib.hid (HRB2.out.alloc (.cells #[.int .u32 0, .slice none 0 0] 58))
        have HG3 : Hid (Grow w (w2.alloc (.cells #[.int .u32 0, .slice none 0 0] 58))) := HG2.out.trans (Grow.of_alloc _ _)
        have HBs3 : Hid (w.heap.size + 2 ≤ (w2.alloc (.cells #[.int .u32 0, .slice none 0 0] 58)).heap.size) := Lib.hid (Nat.le_trans HBs2.out (Grow.of_alloc _ _).size)
        have HD3 := Lib.hid (Blk.new w2 58 #[.int .u32 0, .slice none 0 0])
        have HGe : Hid (w.heap.size + 2 ≤ w2.heap.size) := HBs2
        generalize w2.alloc _ = w3 at HBF3 HRB3 HG3 HBs3 HD3 ⊢
        generalize w2.heap.size = g8 at HD3 HGe ⊢
        clear HBF2 HRB2 HG2 HBs2
        refine tq_chain ?_
        repeat (refine chain_take rfl (by rfl) ?_ (fun W hG => ?_) ?_; rotate_left; (go_simp; rfl); simp only [Act.put, List.setIfInBounds_toArray, List.set_cons_zero, List.set_cons_succ])
        refine chain_only rfl (by rfl) (fun K hK => ?_)
        have mk := makeN n2 hn2' w3
        go_simp
        refine hK _ _ (Below.alloc (Below.refl _ _) HBs3.out _) ?_
        clear hK K
        have HBF4 := Lib.hid (HBF3.out.alloc (.cells (madeCells #[.int .u32 0, .int .u16 0, .int .u16 0, .int .u32 0] (n2 * 4)) 68))
        have HRB4 := Lib.hid (HRB3.out.alloc (.cells (madeCells #[.int .u32 0, .int .u16 0, .int .u16 0, .int .u32 0] (n2 * 4)) 68))
        have HG4 : Hid (Grow w (w3.alloc (.cells (madeCells #[.int .u32 0, .int .u16 0, .int .u16 0, .int .u32 0] (n2 * 4)) 68))) := HG3.out.trans (Grow.of_alloc _ _)
        have HBs4 : Hid (w.heap.size + 2 ≤ (w3.alloc (.cells (madeCells #[.int .u32 0, .int .u16 0, .int .u16 0, .int .u32 0] (n2 * 4)) 68)).heap.size) := Lib.hid (Nat.le_trans HBs3.out (Grow.of_alloc _ _).size)
        have HH4 := Lib.hid (Half.new w3 68 n2 4 (madeCells #[.int .u32 0, .int .u16 0, .int .u16 0, .int .u32 0] (n2 * 4)) (size_madeCells _ _))
        have HGn : Hid (w.heap.size + 2 ≤ w3.heap.size) := HBs3
        have HD4 := Lib.hid (HD3.out.grow (Grow.of_alloc w3 (.cells (madeCells #[.int .u32 0, .int .u16 0, .int .u16 0, .int .u32 0] (n2 * 4)) 68)))
        have HNe : Hid (g8 ≠ w3.heap.size) := Lib.hid (by have := HD3.out.lt; omega)
        clear mk
        generalize w3.alloc _ = w4 at HBF4 HRB4 HG4 HBs4 HH4 HD4 ⊢
        generalize w3.heap.size = gN at HH4 HGn HNe ⊢
        clear HBF3 HRB3 HG3 HBs3 HD3
        repeat (refine chain_take rfl (by rfl) ?_ (fun W hG => ?_) ?_; rotate_left; (go_simp; rfl); simp only [Act.put, List.setIfInBounds_toArray, List.set_cons_zero, List.set_cons_succ])
        refine chain_only rfl (by rfl) (fun K hK => ?_)
        refine wp_store_row 58 (.tmp 7) (.tmp 18) rfl g8 #[.int .u32 (x0 : Int), .slice (some ⟨gN, 0, none⟩) n2 n2] rfl rfl _ _ HD4.out (by kernel_rfl) rfl (by simp [Value.oneCell']) ?_
        refine hK _ _ (Below.setRowV _ HGe.out _) ?_
        clear hK K
        refine chain_done (tq_done ?_)
        have hge := HGe.out
        have hne := HNe.out
        exact ⟨rfl, g8, gN, rfl, rfl, rfl, hge, HGn.out, hne, HD4.out.set _, HH4.out.other (fun e => hne e.symm) _, HBF4.out.other (by omega) _, HRB4.out.other (by omega) _, Grow.set HG4.out (by omega) _⟩
    · have mk := makeN n2 hn2' w1
      go_simp
      refine hK _ _ (Below.alloc (Below.refl _ _) HBs1.out _) ?_
      clear hK K
      have HBF2 := Lib.hid (HBF1.out.alloc (.cells (madeCells #[.int .u32 0, .int .u16 0, .int .u16 0, .int .u32 0] (n2 * 4)) 68))
      have HRB2 := Lib.hid (HRB1.out.alloc (.cells (madeCells #[.int .u32 0, .int .u16 0, .int .u16 0, .int .u32 0] (n2 * 4)) 68))
      have HG2 : Hid (Grow w (w1.alloc (.cells (madeCells #[.int .u32 0, .int .u16 0, .int .u16 0, .int .u32 0] (n2 * 4)) 68))) := HG1.out.trans (Grow.of_alloc _ _)
      have HBs2 : Hid (w.heap.size + 2 ≤ (w1.alloc (.cells (madeCells #[.int .u32 0, .int .u16 0, .int .u16 0, .int .u32 0] (n2 * 4)) 68)).heap.size) := Lib.hid (Nat.le_trans HBs1.out (Grow.of_alloc _ _).size)
      have HH2 := Lib.hid (Half.new w1 68 n2 4 (madeCells #[.int .u32 0, .int .u16 0, .int .u16 0, .int .u32 0] (n2 * 4)) (size_madeCells _ _))
      have HGn : Hid (w.heap.size + 2 ≤ w1.heap.size) := HBs1
      clear mk
      generalize w1.alloc _ = w2 at HBF2 HRB2 HG2 HBs2 HH2 ⊢
      generalize w1.heap.size = gN at HH2 HGn ⊢
      clear HBF1 HRB1 HG1 HBs1
      refine tq_both (step_op rfl (by rfl) (fun K hK => ?_)) (step_op rfl (by rfl) (fun K hK => ?_))
      · go_simp
        refine (HC0.out _ HG2.out).mono ?_
        rintro e w3 ⟨rfl, hg3⟩
        refine hK _ _ (hg3.mono HBs2.out) ?_
        clear hK K
        have HBF3 := Lib.hid (HBF2.out.grow hg3)
        have HRB3 := Lib.hid (HRB2.out.grow hg3)
        have HG3 : Hid (Grow w w3) := HG2.out.trans hg3
        have HBs3 : Hid (w.heap.size + 2 ≤ w3.heap.size) := Lib.hid (Nat.le_trans HBs2.out hg3.size)
        have HH3 := Lib.hid (HH2.out.grow hg3)
        clear hg3 HBF2 HRB2 HG2 HBs2 HH2
        refine tq_chain ?_
        repeat (refine chain_take rfl (by rfl) ?_ (fun W hG => ?_) ?_; rotate_left; (go_simp; rfl); simp only [Act.put, List.setIfInBounds_toArray, List.set_cons_zero, List.set_cons_succ])
        refine chain_only rfl (by rfl) (fun K hK => ?_)
        go_simp
        refine hK _ _ (Below.alloc (Below.refl _ _) HBs3.out _) ?_
        clear hK K
        have HBF4 := Lib.hid (HBF3.out.alloc (.cells #[.int .u32 0, .slice none 0 0] 58))
        have HRB4 := Lib.hid (HRB3.out.alloc (.cells #[.int .u32 0, .slice none 0 0] 58))
        have HG4 : Hid (Grow w (w3.alloc (.cells #[.int .u32 0, .slice none 0 0] 58))) := HG3.out.trans (Grow.of_alloc _ _)
        have HBs4 : Hid (w.heap.size + 2 ≤ (w3.alloc (.cells #[.int .u32 0, .slice none 0 0] 58)).heap.size) := Lib.hid (Nat.le_trans HBs3.out (Grow.of_alloc _ _).size)
        have HD4 := Lib.hid (Blk.new w3 58 #[.int .u32 0, .slice none 0 0])
        have HGe : Hid (w.heap.size + 2 ≤ w3.heap.size) := HBs3
        have HH4 := Lib.hid (HH3.out.grow (Grow.of_alloc w3 (.cells #[.int .u32 0, .slice none 0 0] 58)))
        have HNe : Hid (w3.heap.size ≠ gN) := Lib.hid (by have := HH3.out.lt; omega)
        generalize w3.alloc _ = w4 at HBF4 HRB4 HG4 HBs4 HD4 HH4 ⊢
        generalize w3.heap.size = g8 at HD4 HGe HNe ⊢
        clear HBF3 HRB3 HG3 HBs3 HH3
        repeat (refine chain_take rfl (by rfl) ?_ (fun W hG => ?_) ?_; rotate_left; (go_simp; rfl); simp only [Act.put, List.setIfInBounds_toArray, List.set_cons_zero, List.set_cons_succ])
        refine chain_only rfl (by rfl) (fun K hK => ?_)
        refine wp_store_row 58 (.tmp 7) (.tmp 18) rfl g8 #[.int .u32 (x0 : Int), .slice (some ⟨gN, 0, none⟩) n2 n2] rfl rfl _ _ HD4.out (by kernel_rfl) rfl (by simp [Value.oneCell']) ?_
        refine hK _ _ (Below.setRowV _ HGe.out _) ?_
        clear hK K
        refine chain_done (tq_done ?_)
        have hge := HGe.out
        have hne := HNe.out
        exact ⟨rfl, g8, gN, rfl, rfl, rfl, hge, HGn.out, hne, HD4.out.set _, HH4.out.other (fun e => hne e.symm) _, HBF4.out.other (by omega) _, HRB4.out.other (by omega) _, Grow.set HG4.out (by omega) _⟩
      · go_simp
        refine hK _ _ (Below.alloc (Below.refl _ _) HBs2.out _) ?_
        clear hK K
        have HBF3 := Lib.hid (HBF2.out.alloc (.cells #[.int .u32 0, .slice none 0 0] 58))
        have HRB3 := Lib.hid (HRB2.out.alloc (.cells #[.int .u32 0, .slice none 0 0] 58))
        have HG3 : Hid (Grow w (w2.alloc (.cells #[.int .u32 0, .slice none 0 0] 58))) := HG2.out.trans (Grow.of_alloc _ _)
        have HBs3 : Hid (w.heap.size + 2 ≤ (w2.alloc (.cells #[.int .u32 0, .slice none 0 0] 58)).heap.size) := Lib.hid (Nat.le_trans HBs2.out (Grow.of_alloc _ _).size)
        have HD3 := Lib.hid (Blk.new w2 58 #[.int .u32 0, .slice none 0 0])
        have HGe : Hid (w.heap.size + 2 ≤ w2.heap.size) := HBs2
        have HH3 := Lib.hid (HH2.out.grow (Grow.of_alloc w2 (.cells #[.int .u32 0, .slice none 0 0] 58)))
        have HNe : Hid (w2.heap.size ≠ gN) := Lib.hid (by have := HH2.out.lt; omega)
        generalize w2.alloc _ = w3 at HBF3 HRB3 HG3 HBs3 HD3 HH3 ⊢
        generalize w2.heap.size = g8 at HD3 HGe HNe ⊢
        clear HBF2 HRB2 HG2 HBs2 HH2
        refine tq_chain ?_
        repeat (refine chain_take rfl (by rfl) ?_ (fun W hG => ?_) ?_; rotate_left; (go_simp; rfl); simp only [Act.put, List.setIfInBounds_toArray, List.set_cons_zero, List.set_cons_succ])
        refine chain_only rfl (by rfl) (fun K hK => ?_)
        go_simp
        refine (HC0.out _ HG3.out).mono ?_
        rintro e w4 ⟨rfl, hg4⟩
        refine hK _ _ (hg4.mono HBs3.out) ?_
        clear hK K
        have HBF4 := Lib.hid (HBF3.out.grow hg4)
        have HRB4 := Lib.hid (HRB3.out.grow hg4)
        have HG4 : Hid (Grow w w4) := HG3.out.trans hg4
        have HBs4 : Hid (w.heap.size + 2 ≤ w4.heap.size) := Lib.hid (Nat.le_trans HBs3.out hg4.size)
        have HD4 := Lib.hid (HD3.out.grow hg4)
        have HH4 := Lib.hid (HH3.out.grow hg4)
        clear hg4 HBF3 HRB3 HG3 HBs3 HD3 HH3
        repeat (refine chain_take rfl (by rfl) ?_ (fun W hG => ?_) ?_; rotate_left; (go_simp; rfl); simp only [Act.put, List.setIfInBounds_toArray, List.set_cons_zero, List.set_cons_succ])
        refine chain_only rfl (by rfl) (fun K hK => ?_)
        refine wp_store_row 58 (.tmp 7) (.tmp 18) rfl g8 #[.int .u32 (x0 : Int), .slice (some ⟨gN, 0, none⟩) n2 n2] rfl rfl _ _ HD4.out (by kernel_rfl) rfl (by simp [Value.oneCell']) ?_
        refine hK _ _ (Below.setRowV _ HGe.out _) ?_
        clear hK K
        refine chain_done (tq_done ?_)
        have hge := HGe.out
        have hne := HNe.out
        exact ⟨rfl, g8, gN, rfl, rfl, rfl, hge, HGn.out, hne, HD4.out.set _, HH4.out.other (fun e => hne e.symm) _, HBF4.out.other (by omega) _, HRB4.out.other (by omega) _, Grow.set HG4.out (by omega) _⟩
    · go_simp
      refine hK _ _ (Below.alloc (Below.refl _ _) HBs1.out _) ?_
      clear hK K
      have HBF2 := Lib.hid (HBF1.out.alloc (.cells #[.int .u32 0, .slice none 0 0] 58))
      have HRB2 := Lib.hid (HRB1.out.alloc (.cells #[.int .u32 0, .slice none 0 0] 58))
      have HG2 : Hid (Grow w (w1.alloc (.cells #[.int .u32 0, .slice none 0 0] 58))) := HG1.out.trans (Grow.of_alloc _ _)
      have HBs2 : Hid (w.heap.size + 2 ≤ (w1.alloc (.cells #[.int .u32 0, .slice none 0 0] 58)).heap.size) := Lib.hid (Nat.le_trans HBs1.out (Grow.of_alloc _ _).size)
      have HD2 := Lib.hid (Blk.new w1 58 #[.int .u32 0, .slice none 0 0])
      have HGe : Hid (w.heap.size + 2 ≤ w1.heap.size) := HBs1
      generalize w1.alloc _ = w2 at HBF2 HRB2 HG2 HBs2 HD2 ⊢
      generalize w1.heap.size = g8 at HD2 HGe ⊢
      clear HBF1 HRB1 HG1 HBs1
      refine tq_both (step_op rfl (by rfl) (fun K hK => ?_)) (step_op rfl (by rfl) (fun K hK => ?_))
      · go_simp
        refine (HC0.out _ HG2.out).mono ?_
        rintro e w3 ⟨rfl, hg3⟩
        refine hK _ _ (hg3.mono HBs2.out) ?_
        clear hK K
        have HBF3 := Lib.hid (HBF2.out.grow hg3)
        have HRB3 := Lib.hid (HRB2.out.grow hg3)
        have HG3 : Hid (Grow w w3) := HG2.out.trans hg3
        have HBs3 : Hid (w.heap.size + 2 ≤ w3.heap.size) := Lib.hid (Nat.le_trans HBs2.out hg3.size)
        have HD3 := Lib.hid (HD2.out.grow hg3)
        clear hg3 HBF2 HRB2 HG2 HBs2 HD2
        refine tq_chain ?_
        repeat (refine chain_take rfl (by rfl) ?_ (fun W hG => ?_) ?_; rotate_left; (go_simp; rfl); simp only [Act.put, List.setIfInBounds_toArray, List.set_cons_zero, List.set_cons_succ])
        refine chain_only rfl (by rfl) (fun K hK => ?_)
        have mk := makeN n2 hn2' w3
        go_simp
        refine hK _ _ (Below.alloc (Below.refl _ _) HBs3.out _) ?_
        clear hK K
        have HBF4 := Lib.hid (HBF3.out.alloc (.cells (madeCells #[.int .u32 0, .int .u16 0, .int .u16 0, .int .u32 0] (n2 * 4)) 68))
        have HRB4 := Lib.hid (HRB3.out.alloc (.cells (madeCells #[.int .u32 0, .int .u16 0, .int .u16 0, .int .u32 0] (n2 * 4)) 68))
        have HG4 : Hid (Grow w (w3.alloc (.cells (madeCells #[.int .u32 0, .int .u16 0, .int .u16 0, .int .u32 0] (n2 * 4)) 68))) := HG3.out.trans (Grow.of_alloc _ _)
        have HBs4 : Hid (w.heap.size + 2 ≤ (w3.alloc (.cells (madeCells #[.int .u32 0, .int .u16 0, .int .u16 0, .int .u32 0] (n2 * 4)) 68)).heap.size) := Lib.hid (Nat.le_trans HBs3.out (Grow.of_alloc _ _).size)
        have HH4 := Lib.hid (Half.new w3 68 n2 4 (madeCells #[.int .u32 0, .int .u16 0, .int .u16 0, .int .u32 0] (n2 * 4)) (size_madeCells _ _))
        have HGn : Hid (w.heap.size + 2 ≤ w3.heap.size) := HBs3
        have HD4 := Lib.hid (HD3.out.grow (Grow.of_alloc w3 (.cells (madeCells #[.int .u32 0, .int .u16 0, .int .u16 0, .int .u32 0] (n2 * 4)) 68)))
        have HNe : Hid (g8 ≠ w3.heap.size) := Lib.hid (by have := HD3.out.lt; omega)
        clear mk
        generalize w3.alloc _ = w4 at HBF4 HRB4 HG4 HBs4 HH4 HD4 ⊢
        generalize w3.heap.size = gN at HH4 HGn HNe ⊢
        clear HBF3 HRB3 HG3 HBs3 HD3
        repeat (refine chain_take rfl (by rfl) ?_ (fun W hG => ?_) ?_; rotate_left; (go_simp; rfl); simp only [Act.put, List.setIfInBounds_toArray, List.set_cons_zero, List.set_cons_succ])
        refine chain_only rfl (by rfl) (fun K hK => ?_)
        refine wp_store_row 58 (.tmp 7) (.tmp 18) rfl g8 #[.int .u32 (x0 : Int), .slice (some ⟨gN, 0, none⟩) n2 n2] rfl rfl _ _ HD4.out (by kernel_rfl) rfl (by simp [Value.oneCell']) ?_
        refine hK _ _ (Below.setRowV _ HGe.out _) ?_
        clear hK K
        refine chain_done (tq_done ?_)
        have hge := HGe.out
        have hne := HNe.out
        exact ⟨rfl, g8, gN, rfl, rfl, rfl, hge, HGn.out, hne, HD4.out.set _, HH4.out.other (fun e => hne e.symm) _, HBF4.out.other (by omega) _, HRB4.out.other (by omega) _, Grow.set HG4.out (by omega) _⟩
      · have mk := makeN n2 hn2' w2
        go_simp
        refine hK _ _ (Below.alloc (Below.refl _ _) HBs2.out _) ?_
        clear hK K
        have HBF3 := Lib.hid (HBF2.out.alloc (.cells (madeCells #[.int .u32 0, .int .u16 0, .int .u16 0, .int .u32 0] (n2 * 4)) 68))
        have HRB3 := Lib.hid (HRB2.out.alloc (.cells (madeCells #[.int .u32 0, .int .u16 0, .int .u16 0, .int .u32 0] (n2 * 4)) 68))
        have HG3 : Hid (Grow w (w2.alloc (.cells (madeCells #[.int .u32 0, .int .u16 0, .int .u16 0, .int .u32 0] (n2 * 4)) 68))) := HG2.out.trans (Grow.of_alloc _ _)
        have HBs3 : Hid (w.heap.size + 2 ≤ (w2.alloc (.cells (madeCells #[.int .u32 0, .int .u16 0, .int .u16 0, .int .u32 0] (n2 * 4)) 68)).heap.size) := Lib.hid (Nat.le_trans HBs2.out (Grow.of_alloc _ _).size)
        have HH3 := Lib.hid (Half.new w2 68 n2 4 (madeCells #[.int .u32 0, .int .u16 0, .int .u16 0, .int .u32 0] (n2 * 4)) (size_madeCells _ _))
        have HGn : Hid (w.heap.size + 2 ≤ w2.heap.size) := HBs2
        have HD3 := Lib.hid (HD2.out.grow (Grow.of_alloc w2 (.cells (madeCells #[.int .u32 0, .int .u16 0, .int .u16 0, .int .u32 0] (n2 * 4)) 68)))
        have HNe : Hid (g8 ≠ w2.heap.size) := Lib.hid (by have := HD2.out.lt; omega)
        clear mk
        generalize w2.alloc _ = w3 at HBF3 HRB3 HG3 HBs3 HH3 HD3 ⊢
        generalize w2.heap.size = gN at HH3 HGn HNe ⊢
        clear HBF2 HRB2 HG2 HBs2 HD2
        refine tq_chain ?_
        repeat (refine chain_take rfl (by rfl) ?_ (fun W hG => ?_) ?_; rotate_left; (go_simp; rfl); simp only [Act.put, List.setIfInBounds_toArray, List.set_cons_zero, List.set_cons_succ])
        refine chain_only rfl (by rfl) (fun K hK => ?_)
        go_simp
        refine (HC0.out _ HG3.out).mono ?_
        rintro e w4 ⟨rfl, hg4⟩
        refine hK _ _ (hg4.mono HBs3.out) ?_
        clear hK K
        have HBF4 := Lib.hid (HBF3.out.grow hg4)
        have HRB4 := Lib.hid (HRB3.out.grow hg4)
        have HG4 : Hid (Grow w w4) := HG3.out.trans hg4
        have HBs4 : Hid (w.heap.size + 2 ≤ w4.heap.size) := Lib.hid (Nat.le_trans HBs3.out hg4.size)
        have HD4 := Lib.hid (HD3.out.grow hg4)
        have HH4 := Lib.hid (HH3.out.grow hg4)
        clear hg4 HBF3 HRB3 HG3 HBs3 HD3 HH3
        repeat (refine chain_take rfl (by rfl) ?_ (fun W hG => ?_) ?_; rotate_left; (go_simp; rfl); simp only [Act.put, List.setIfInBounds_toArray, List.set_cons_zero, List.set_cons_succ])
        refine chain_only rfl (by rfl) (fun K hK => ?_)
        refine wp_store_row 58 (.tmp 7) (.tmp 18) rfl g8 #[.int .u32 (x0 : Int), .slice (some ⟨gN, 0, none⟩) n2 n2] rfl rfl _ _ HD4.out (by kernel_rfl) rfl (by simp [Value.oneCell']) ?_
        refine hK _ _ (Below.setRowV _ HGe.out _) ?_
        clear hK K
        refine chain_done (tq_done ?_)
        have hge := HGe.out
        have hne := HNe.out
        exact ⟨rfl, g8, gN, rfl, rfl, rfl, hge, HGn.out, hne, HD4.out.set _, HH4.out.other (fun e => hne e.symm) _, HBF4.out.other (by omega) _, HRB4.out.other (by omega) _, Grow.set HG4.out (by omega) _⟩
  · clear HC0 z1 bf b4 hg0 hBs y0
    rintro a' w' ⟨g8, gN, ha, hl, hg, hge, hgn, hne, hd, hh, hbf, hrb, hgr⟩
    generalize (a'.tmps.toList.drop 7).take 12 = vs at ha hl hg
    obtain ⟨v0, v1, v2, v3, v4, v5, v6, v7, v8, v9, v10, v11, rfl⟩ := list12 hl
    obtain rfl : v0 = _ := Option.some.inj hg
    subst ha
    clear hl hg
    rename_i K hK
    apply hK
    clear hK K
    simp only [List.take_succ_cons, List.take_zero, List.drop_succ_cons, List.drop_zero, List.cons_append, List.nil_append]
    have HH1 := Lib.hid hh
    have HD1 := Lib.hid hd
    have HBF1 := Lib.hid hbf
    have HRB1 := Lib.hid hrb
    have HG1 := Lib.hid hgr
    have HGe := Lib.hid hge
    have HGs := Lib.hid hgn
    have HNe := Lib.hid hne
    clear hh hd hbf hrb hgr hge hgn hne
    go_wp2_with fail
    go_loopw [21] (fun i wr => ∃ k : Nat, k ≤ n2 ∧ i = .int .i64 k ∧ Half wr gN 68 4 n2 ((ps.take k).map F) ∧ Blk wr g8 58 #[.int .u32 (x0 : Int), .slice (some ⟨gN, 0, none⟩) n2 n2] ∧ Blk wr w.heap.size 70 #[.slice A n c, .bool big] ∧
      Blk wr (w.heap.size + 1) 58 #[.int .u32 0, .slice none 0 0] ∧ Grow w wr) (fun i _ => n2 - (intOf i).toNat)
    case atStart => exact ⟨0, Nat.zero_le _, rfl, HH1.out, HD1.out, HBF1.out, HRB1.out, HG1.out⟩
    case round =>
      obtain ⟨k, hk, rfl, hh, hd, hbf, hrb, hg⟩ := hrel
      have HH := Lib.hid hh
      have HD := Lib.hid hd
      have HBF := Lib.hid hbf
      have HRB := Lib.hid hrb
      have HG := Lib.hid hg
      clear hh hd hbf hrb hg HH1 HD1 HBF1 HRB1 HG1
      by_cases hlt : k < n2
      · obtain ⟨b, off, rfl, hb, hcell⟩ := HN.out.pos (by omega)
        have hkl : k < ps.length := by rw [← HNl.out]; exact hlt
        have q0 := (HG.out.cell hb).trans (hcell k hkl)
        have HT : Hid (ps.take (k + 1) = ps.take k ++ [ps[k]]) := Lib.hid (List.take_succ_eq_append_getElem hkl)
        have HL : Hid ((ps.take k).length = k) := Lib.hid (by rw [List.length_take]; omega)
        have HM := Lib.hid (HM0.out ps[k] · (List.getElem_mem hkl))
        generalize ps[k] = q at q0 HT HM
        generalize ps.take k = T0 at HT HL HH
        have z1 : (0 : Int) ≤ (k : Int) := by omega
        have z2 : (k : Int) < (n2 : Int) := by omega
        clear hcell hkl hb
        go_wp2_with fail
        refine wp_region_leap (leap_bar gN) [(0, true), (1, true), (2, true), (3, true), (4, true), (5, false), (6, true), (7, false)] (by kernel_rfl) (by kernel_rfl) (by kernel_rfl) ?_
        have hN1 := HNe.out
        have hN2 := HGs.out
        have HX : Hid (∀ W, Bar gN wr.drew W → (_ ∧ _) ∧ (_ ∧ _)) := fun W hW => ⟨((HBF.out.drew).bar hW (by omega)).c2, ((HD.out.drew).bar hW (by omega)).c2⟩
        have HH2 : Hid (Half wr.drew _ _ _ _ _) := HH.out
        have HD2 := Lib.hid HD.out.drew
        have HBF2 := Lib.hid HBF.out.drew
        have HRB2 := Lib.hid HRB.out.drew
        have HG2 : Hid (Grow w wr.drew) := HG.out.trans (Grow.of_drew _)
        generalize wr.drew = w2 at HX HH2 HD2 HBF2 HRB2 HG2 ⊢
        clear HH HD HBF HRB HG hN1 hN2 q0
        repeat (refine chain_take rfl (by rfl) ?_ (fun W hG => ?_) ?_; rotate_left; (obtain ⟨⟨q1, q2⟩, q3, q4⟩ := HX.out W hG; go_simp; rfl); simp only [Act.put, List.setIfInBounds_toArray, List.set_cons_zero, List.set_cons_succ])
        clear HX
        refine chain_only rfl (by rfl) (fun K hK => ?_)
        go_simp
        refine (HM.out _ HG2.out).mono ?_
        rintro e w3 ⟨rfl, hg3⟩
        refine hK _ _ (Bar.of_grow hg3) ?_
        clear hK K
        have HH3 := Lib.hid (HH2.out.grow hg3)
        have HD3 := Lib.hid (HD2.out.grow hg3)
        have HBF3 := Lib.hid (HBF2.out.grow hg3)
        have HRB3 := Lib.hid (HRB2.out.grow hg3)
        have HG3 : Hid (Grow w w3) := HG2.out.trans hg3
        clear hg3 HH2 HD2 HBF2 HRB2 HG2 HM
        repeat (refine chain_take rfl (by rfl) ?_ (fun W hG => ?_) ?_; rotate_left; (go_simp; rfl); simp only [Act.put, List.setIfInBounds_toArray, List.set_cons_zero, List.set_cons_succ])
        refine chain_only rfl (by rfl) (fun K hK => ?_)
        refine wp_store_half 68 (.tmp 32) (.tmp 31) rfl HH3.out (by rw [List.length_map, HL.out]; exact hlt) (r := F q) (HFs.out q).1 (HFs.out q).2 (.agg (F q)) rfl (by kernel_rfl) rfl (by rw [List.length_map, HL.out]) rfl ?_
        intro cs' hh
        refine hK _ _ (Bar.set _ _ _) ?_
        clear hK K
        refine chain_done ?_
        have HH4 := Lib.hid hh
        have hN1 := HNe.out
        have hN2 := HGs.out
        have HD4 := Lib.hid (HD3.out.other (k := gN) (by omega) cs')
        have HBF4 := Lib.hid (HBF3.out.other (k := gN) (by omega) cs')
        have HRB4 := Lib.hid (HRB3.out.other (k := gN) (by omega) cs')
        have HG4 : Hid (Grow w (w3.setRow gN cs')) := Grow.set HG3.out (by omega) _
        generalize w3.setRow gN cs' = w4 at HH4 HD4 HBF4 HRB4 HG4 ⊢
        clear hh HH3 HD3 HBF3 HRB3 HG3 hN1 hN2
        go_wp2
        go_roundw
        case rel =>
          exact ⟨k + 1, by omega, by go_num, by rw [HT.out, List.map_append]; exact HH4.out, HD4.out, HBF4.out, HRB4.out, HG4.out⟩
        case measure => simp [intOf]; omega
      · have e : k = n2 := by omega
        subst e
        have HT : Hid (ps.take k = ps) := Lib.hid (by rw [HNl.out]; exact List.take_length)
        rw [HT.out] at HH
        have hN1 := HNe.out
        have hN2 := HGs.out
        have HH5 := Lib.hid (HH.out.other (k := w.heap.size + 1) (by omega) #[.int .u32 (x0 : Int), .slice (some ⟨gN, 0, none⟩) k k])
        have HR5 := Lib.hid (HRB.out.set #[.int .u32 (x0 : Int), .slice (some ⟨gN, 0, none⟩) k k])
        have HG5 : Hid (Grow w (wr.setRow (w.heap.size + 1) #[.int .u32 (x0 : Int), .slice (some ⟨gN, 0, none⟩) k k])) := Grow.set HG.out (by omega) _
        have HZO := Lib.hid (HH5.out.full (base := w.heap.size) (by rw [List.length_map]; exact HNl.out.symm) (by omega) (by unfold maxLen; omega))
        clear hN1 hN2 HH5
        go_wp2_with (first | (refine wpList_load_row rfl 58 (.tmp 7) rfl g8 rfl _ #[.int .u32 (x0 : Int), .slice (some ⟨gN, 0, none⟩) k k] (0, 0) _ HD.out Try.underlying58 rfl (by kernel_rfl) ?_) | (refine wpList_store_row rfl 58 (.tmp 6) (.tmp 34) rfl (w.heap.size + 1) #[.int .u32 (x0 : Int), .slice (some ⟨gN, 0, none⟩) k k] rfl rfl _ _ HRB.out (by kernel_rfl) rfl (by simp [Value.oneCell']) ?_))
        refine bodyPost_ret (results_cell_row (cs := #[.int .u32 (x0 : Int), .slice (some ⟨gN, 0, none⟩) k k]) rfl _ _ (w.heap.size + 1) _ (0, 0) _ rfl HR5.out Try.underlying58 rfl (by kernel_rfl)) rfl ?_
        refine ⟨_, rfl, ⟨_, _, _, rfl, ?_⟩, HG5.out⟩
        have := HZO.out
        rw [HFe.out] at this
        simp only [List.map_map]
        exact this
end Go.Proofs.Ytfnaigeakfgpbaa
