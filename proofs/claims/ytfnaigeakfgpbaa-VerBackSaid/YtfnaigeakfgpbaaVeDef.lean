/-
  The contract of ver.def: the definition at a place, its names at places.
-/
import Derived.Test.YtfnaigeakfgpbaaVeAux
import Derived.Test.YtfnaigeakfgpbaaCut
import Derived.Laws.MakeOwn
import Derived.Lib.SmallJoins
namespace Go.Proofs.Ytfnaigeakfgpbaa
open Go.RowKit

/-- One is told, its parts in new memory. -/
def VTell (M : VM) (e : Ve) (w : World) (en : Ending) (w' : World) : Prop := ∃ r, en = .returned (.agg r) ∧ VeO M w' w.heap.size r e ∧ Grow w w'

theorem Blk.putD {w : World} {g : Nat} {t : TypeId} {a b c d : Value} (h : Blk w g t #[a, b, c, d]) (v : Value) : Blk (w.setCell ⟨g, 3, none⟩ v) g t #[a, b, c, v] := by
  have := Joins.block_setCell (i := 3) h v
  simp at this
  exact this

theorem Half.cellset {w : World} {g z N : Nat} {t : TypeId} {T : List (Array Value)} (h : Half w g t z N T) {a : Addr} (ha : g ≠ a.block) (v : Value) : Half (w.setCell a v) g t z N T := by
  obtain ⟨cs, h1, h2⟩ := h
  exact ⟨cs, h1.cellset ha v, h2⟩
theorem list19 {l0 : List Value} (h0 : l0.length = 19) : ∃ x0 x1 x2 x3 x4 x5 x6 x7 x8 x9 x10 x11 x12 x13 x14 x15 x16 x17 x18, l0 = [x0, x1, x2, x3, x4, x5, x6, x7, x8, x9, x10, x11, x12, x13, x14, x15, x16, x17, x18] := by
  match l0, h0 with
  | [x0, x1, x2, x3, x4, x5, x6, x7, x8, x9, x10, x11, x12, x13, x14, x15, x16, x17, x18], _ => exact ⟨_, _, _, _, _, _, _, _, _, _, _, _, _, _, _, _, _, _, _, rfl⟩

theorem makeD (N : Nat) (h : N ≤ 65535) (w : World) : (Instr.makeSlice 53 (.int .i64 (N : Int)) (.int .i64 (N : Int))).run Try.prog w = .ok (.slice (some ⟨w.heap.size, 0, none⟩) N N)
    (w.alloc (.cells (madeCells #[.int .u32 0] N) 52)) := by
  have hinfo : (Try.prog.info? 52).map (fun i => (i.zero, i.size, i.bytes)) = some (some (.int .u32 0), 1, 4) := by kernel_rfl
  obtain ⟨i, hi, hz, hs, hby⟩ := info_parts hinfo
  have := run_make (P := Try.prog) w 53 52 i (.int .u32 0) Try.underlying53 hi hz .i64 .i64 (N : Int) (N : Int) (by omega) (by omega) (by rw [hby]; omega) (by omega)
  rw [hs, show (Value.int IntKind.u32 0).cells = #[.int .u32 0] from rfl] at this
  simpa using this

set_option maxRecDepth 100000 in
set_option maxHeartbeats 2000000 in
theorem vdef_any (A : Option Addr) (n c : Nat) (l : List UInt8) (a : Nat) (big : Bool) (A2 : Option Addr) (n2 c2 : Nat) (ps : List Nat) (w : World) (h : RB w w.heap.size A n c l) (hp : NS w w.heap.size .u64 A2 n2 c2 ps) (hq : a + 20 ≤ n) (hk : ∀ k ∈ ps, k + 8 ≤ n) (hl : ps.length ≤ 65535) :
    Calls Try.prog 26 #[.agg #[.slice A n c, .bool big], .int .u64 a, .slice A2 n2 c2] w (VTell vmD (veOf vkD (vG l big) (a, ps)) w) := by
  have hmx := h.max
  have hcp := h.cap
  unfold maxLen at hmx
  have HRBs : ∀ w', Grow w w' → RB w' w'.heap.size A n c l := fun w' hg => (h.belowAt hg (Nat.le_refl _)).more hg.size
  have HC0 := Lib.hid fun w' (hg : Grow w w') => vget_any A n c l (a + 2) 2 big w' (HRBs w' hg) (by omega) (.inl rfl)
  have HC1 := Lib.hid fun w' (hg : Grow w w') => vget_any A n c l (a + 4) 2 big w' (HRBs w' hg) (by omega) (.inl rfl)
  have HC2 := Lib.hid fun w' (hg : Grow w w') => vget_any A n c l (a + 8) 4 big w' (HRBs w' hg) (by omega) (.inr rfl)
  have HCk := Lib.hid fun q w' (hq : q ∈ ps) (hg : Grow w w') => vget_any A n c l q 4 big w' (HRBs w' hg) (by have := hk q hq; omega) (.inr rfl)
  have HKb := Lib.hid fun q => vG_lt4 l big q
  have hE : veOf vkD (vG l big) (a, ps) = ⟨[vG l big (a + 2) 2, vG l big (a + 4) 2, vG l big (a + 8) 4], ps.map fun k => [vG l big k 4]⟩ := rfl
  rw [hE]
  have k0 := vG_lt2 l big (a + 2)
  have k1 := vG_lt2 l big (a + 4)
  have k2 := vG_lt4 l big (a + 8)
  generalize vG l big (a + 2) 2 = x0 at HC0 k0 ⊢
  generalize vG l big (a + 4) 2 = x1 at HC1 k1 ⊢
  generalize vG l big (a + 8) 4 = x2 at HC2 k2 ⊢
  generalize vG l big = G at HCk HKb ⊢
  obtain ⟨a2, e2⟩ : ∃ q, q = a + 2 := ⟨_, rfl⟩
  obtain ⟨a4, e4⟩ : ∃ q, q = a + 4 := ⟨_, rfl⟩
  obtain ⟨a8, e8⟩ : ∃ q, q = a + 8 := ⟨_, rfl⟩
  have z1 : IntKind.u64.wrap ((a : Int) + 2) = (a2 : Int) := by rw [IntKind.wrap_u64]; omega
  have z2 : IntKind.u64.wrap ((a : Int) + 4) = (a4 : Int) := by rw [IntKind.wrap_u64]; omega
  have z3 : IntKind.u64.wrap ((a : Int) + 8) = (a8 : Int) := by rw [IntKind.wrap_u64]; omega
  rw [← e2] at HC0
  rw [← e4] at HC1
  rw [← e8] at HC2
  have y0 : IntKind.u16.wrap (x0 : Int) = (x0 : Int) := by rw [IntKind.wrap_u16]; omega
  have y1 : IntKind.u16.wrap (x1 : Int) = (x1 : Int) := by rw [IntKind.wrap_u16]; omega
  have y2 : IntKind.u32.wrap (x2 : Int) = (x2 : Int) := by rw [IntKind.wrap_u32]; omega
  have hn2 := hp.len
  have hcp2 := hp.cap
  have hmx2 := hp.max
  unfold maxLen at hmx2
  have HN := Lib.hid hp
  have HNl := Lib.hid hn2
  have hn2' : n2 ≤ 65535 := by omega
  clear hmx hcp HRBs h hq hE k0 k1 k2 e2 e4 e8 hp hk hl hn2
  go_enter Try.func26, Try.ntmps26
  go_wp2_with fail
  generalize hW : World.alloc _ _ = W0
  obtain ⟨bf, b4, hg0⟩ := blk2 hW
  have hBs : w.heap.size + 2 ≤ W0.heap.size := b4.lt
  clear hW
  refine wp_cut (fun a a' w' => ∃ g8, a' = ⟨(a.tmps.toList.take 7 ++ (a'.tmps.toList.drop 7).take 19 ++ a.tmps.toList.drop 26).toArray, a.defers⟩ ∧ ((a'.tmps.toList.drop 7).take 19).length = 19 ∧ ((a'.tmps.toList.drop 7).take 19).head? = some (.pointer (some ⟨g8, 0, none⟩)) ∧ w.heap.size + 2 ≤ g8 ∧
    Blk w' g8 55 #[.int .u16 (x0 : Int), .int .u16 (x1 : Int), .int .u32 (x2 : Int), .slice none 0 0] ∧ Blk w' w.heap.size 70 #[.slice A n c, .bool big] ∧ Blk w' (w.heap.size + 1) 55 #[.int .u16 0, .int .u16 0, .int .u32 0, .slice none 0 0] ∧ Grow w w') ?_ ?_
  · refine wp_region_tq (leap_below (w.heap.size + 2)) (.chain [(0, true), (1, true), (2, true), (5, true), (6, true), (7, true), (10, true), (11, true), (12, true)] (.both 3 (.chain [(4, true)] (.both 8 (.chain [(9, true)] (.both 13 (.chain [(14, true), (15, true), (16, false), (17, false)] .done) 16 (.chain [(13, false), (14, true), (15, true), (17, false)] .done))) 16 (.chain [(8, false), (9, true), (13, false), (14, true), (15, true), (17, false)] .done))) 16 (.chain [(3, false), (4, true), (8, false), (9, true), (13, false), (14, true), (15, true), (17, false)] .done))) (by kernel_rfl) (by kernel_rfl) (by kernel_rfl) ?_
    refine tq_chain ?_
    have HX : Hid (∀ W, Below (w.heap.size + 2) W0.drew W → _ ∧ _) := fun W hW => ((bf.drew).below hW (by omega)).c2
    have HBF1 := Lib.hid bf.drew
    have HRB1 := Lib.hid b4.drew
    have HG1 : Hid (Grow w W0.drew) := hg0.trans (Grow.of_drew _)
    have HBs1 : Hid (w.heap.size + 2 ≤ W0.drew.heap.size) := Lib.hid hBs
    generalize W0.drew = w1 at HX HBF1 HRB1 HG1 HBs1 ⊢
    clear bf b4 hg0 hBs HCk HN HNl HKb hcp2 hmx2 hn2'
    repeat (refine chain_take rfl (by rfl) ?_ (fun W hG => ?_) ?_; rotate_left; (obtain ⟨q1, q2⟩ := HX.out W hG; go_simp; rfl); simp only [Act.put, List.setIfInBounds_toArray, List.set_cons_zero, List.set_cons_succ])
    clear HX z1 z2 z3
    refine chain_done (tq_both (step_op rfl (by rfl) (fun K hK => ?_)) (step_op rfl (by rfl) (fun K hK => ?_)))
    · go_simp
      refine (HC0.out _ HG1.out).mono ?_
      rintro e w2 ⟨rfl, hg2⟩
      refine hK _ _ (hg2.mono HBs1.out) ?_
      clear hK K
      have HBF2 := Lib.hid (HBF1.out.grow hg2)
      have HRB2 := Lib.hid (HRB1.out.grow hg2)
      have HG2 : Hid (Grow w w2) := HG1.out.trans hg2
      have HBs2 : Hid (w.heap.size + 2 ≤ w2.heap.size) := Lib.hid (Nat.le_trans HBs1.out hg2.size)
      clear hg2 HBF1 HRB1 HG1 HBs1
      refine tq_chain ?_
      repeat (refine chain_take rfl (by rfl) ?_ (fun W hG => ?_) ?_; rotate_left; (go_simp; rfl); simp only [Act.put, List.setIfInBounds_toArray, List.set_cons_zero, List.set_cons_succ])
      refine chain_done (tq_both (step_op rfl (by rfl) (fun K hK => ?_)) (step_op rfl (by rfl) (fun K hK => ?_)))
      · go_simp
        refine (HC1.out _ HG2.out).mono ?_
        rintro e w3 ⟨rfl, hg3⟩
        refine hK _ _ (hg3.mono HBs2.out) ?_
        clear hK K
        have HBF3 := Lib.hid (HBF2.out.grow hg3)
        have HRB3 := Lib.hid (HRB2.out.grow hg3)
        have HG3 : Hid (Grow w w3) := HG2.out.trans hg3
        have HBs3 : Hid (w.heap.size + 2 ≤ w3.heap.size) := Lib.hid (Nat.le_trans HBs2.out hg3.size)
        clear hg3 HBF2 HRB2 HG2 HBs2
        refine tq_chain ?_
        repeat (refine chain_take rfl (by rfl) ?_ (fun W hG => ?_) ?_; rotate_left; (go_simp; rfl); simp only [Act.put, List.setIfInBounds_toArray, List.set_cons_zero, List.set_cons_succ])
        refine chain_done (tq_both (step_op rfl (by rfl) (fun K hK => ?_)) (step_op rfl (by rfl) (fun K hK => ?_)))
        · go_simp
          refine (HC2.out _ HG3.out).mono ?_
          rintro e w4 ⟨rfl, hg4⟩
          refine hK _ _ (hg4.mono HBs3.out) ?_
          clear hK K
          have HBF4 := Lib.hid (HBF3.out.grow hg4)
          have HRB4 := Lib.hid (HRB3.out.grow hg4)
          have HG4 : Hid (Grow w w4) := HG3.out.trans hg4
          have HBs4 : Hid (w.heap.size + 2 ≤ w4.heap.size) := Lib.hid (Nat.le_trans HBs3.out hg4.size)
          clear hg4 HBF3 HRB3 HG3 HBs3
          refine tq_chain ?_
          repeat (refine chain_take rfl (by rfl) ?_ (fun W hG => ?_) ?_; rotate_left; (go_simp; rfl); simp only [Act.put, List.setIfInBounds_toArray, List.set_cons_zero, List.set_cons_succ])
          refine chain_only rfl (by rfl) (fun K hK => ?_)
          go_simp
          refine hK _ _ (Below.alloc (Below.refl _ _) HBs4.out _) ?_
          clear hK K
          have HD5 := Lib.hid (Blk.new w4 55 #[.int .u16 0, .int .u16 0, .int .u32 0, .slice none 0 0])
          have HBF5 := Lib.hid (HBF4.out.alloc (.cells #[.int .u16 0, .int .u16 0, .int .u32 0, .slice none 0 0] 55))
          have HRB5 := Lib.hid (HRB4.out.alloc (.cells #[.int .u16 0, .int .u16 0, .int .u32 0, .slice none 0 0] 55))
          have HG5 : Hid (Grow w (w4.alloc (.cells #[.int .u16 0, .int .u16 0, .int .u32 0, .slice none 0 0] 55))) := HG4.out.trans (Grow.of_alloc _ _)
          have HBs5 : Hid (w.heap.size + 2 ≤ (w4.alloc (.cells #[.int .u16 0, .int .u16 0, .int .u32 0, .slice none 0 0] 55)).heap.size) := Lib.hid (Nat.le_trans HBs4.out (Grow.of_alloc _ _).size)
          have HGe : Hid (w.heap.size + 2 ≤ w4.heap.size) := HBs4
          generalize w4.alloc _ = w5 at HD5 HBF5 HRB5 HG5 HBs5 ⊢
          generalize w4.heap.size = g8 at HD5 HGe ⊢
          clear HBF4 HRB4 HG4 HBs4
          refine chain_only rfl (by rfl) (fun K hK => ?_)
          refine wp_store_row 55 (.tmp 7) (.tmp 25) rfl g8 #[.int .u16 (x0 : Int), .int .u16 (x1 : Int), .int .u32 (x2 : Int), .slice none 0 0] rfl rfl _ _ HD5.out (by kernel_rfl) rfl (by simp [Value.oneCell']) ?_
          refine hK _ _ (Below.setRowV _ HGe.out _) ?_
          clear hK K
          refine chain_done (tq_done ?_)
          have hge := HGe.out
          exact ⟨rfl, g8, rfl, rfl, rfl, hge, HD5.out.set _, HBF5.out.other (by omega) _, HRB5.out.other (by omega) _, Grow.set HG5.out (by omega) _⟩
        · go_simp
          refine hK _ _ (Below.alloc (Below.refl _ _) HBs3.out _) ?_
          clear hK K
          have HD4 := Lib.hid (Blk.new w3 55 #[.int .u16 0, .int .u16 0, .int .u32 0, .slice none 0 0])
          have HBF4 := Lib.hid (HBF3.out.alloc (.cells #[.int .u16 0, .int .u16 0, .int .u32 0, .slice none 0 0] 55))
          have HRB4 := Lib.hid (HRB3.out.alloc (.cells #[.int .u16 0, .int .u16 0, .int .u32 0, .slice none 0 0] 55))
          have HG4 : Hid (Grow w (w3.alloc (.cells #[.int .u16 0, .int .u16 0, .int .u32 0, .slice none 0 0] 55))) := HG3.out.trans (Grow.of_alloc _ _)
          have HBs4 : Hid (w.heap.size + 2 ≤ (w3.alloc (.cells #[.int .u16 0, .int .u16 0, .int .u32 0, .slice none 0 0] 55)).heap.size) := Lib.hid (Nat.le_trans HBs3.out (Grow.of_alloc _ _).size)
          have HGe : Hid (w.heap.size + 2 ≤ w3.heap.size) := HBs3
          generalize w3.alloc _ = w4 at HD4 HBF4 HRB4 HG4 HBs4 ⊢
          generalize w3.heap.size = g8 at HD4 HGe ⊢
          clear HBF3 HRB3 HG3 HBs3
          refine tq_chain ?_
          refine chain_only rfl (by rfl) (fun K hK => ?_)
          go_simp
          refine (HC2.out _ HG4.out).mono ?_
          rintro e w5 ⟨rfl, hg5⟩
          refine hK _ _ (hg5.mono HBs4.out) ?_
          clear hK K
          have HBF5 := Lib.hid (HBF4.out.grow hg5)
          have HRB5 := Lib.hid (HRB4.out.grow hg5)
          have HG5 : Hid (Grow w w5) := HG4.out.trans hg5
          have HBs5 : Hid (w.heap.size + 2 ≤ w5.heap.size) := Lib.hid (Nat.le_trans HBs4.out hg5.size)
          have HD5 := Lib.hid (HD4.out.grow hg5)
          clear hg5 HBF4 HRB4 HG4 HBs4 HD4
          repeat (refine chain_take rfl (by rfl) ?_ (fun W hG => ?_) ?_; rotate_left; (go_simp; rfl); simp only [Act.put, List.setIfInBounds_toArray, List.set_cons_zero, List.set_cons_succ])
          refine chain_only rfl (by rfl) (fun K hK => ?_)
          refine wp_store_row 55 (.tmp 7) (.tmp 25) rfl g8 #[.int .u16 (x0 : Int), .int .u16 (x1 : Int), .int .u32 (x2 : Int), .slice none 0 0] rfl rfl _ _ HD5.out (by kernel_rfl) rfl (by simp [Value.oneCell']) ?_
          refine hK _ _ (Below.setRowV _ HGe.out _) ?_
          clear hK K
          refine chain_done (tq_done ?_)
          have hge := HGe.out
          exact ⟨rfl, g8, rfl, rfl, rfl, hge, HD5.out.set _, HBF5.out.other (by omega) _, HRB5.out.other (by omega) _, Grow.set HG5.out (by omega) _⟩
      · go_simp
        refine hK _ _ (Below.alloc (Below.refl _ _) HBs2.out _) ?_
        clear hK K
        have HD3 := Lib.hid (Blk.new w2 55 #[.int .u16 0, .int .u16 0, .int .u32 0, .slice none 0 0])
        have HBF3 := Lib.hid (HBF2.out.alloc (.cells #[.int .u16 0, .int .u16 0, .int .u32 0, .slice none 0 0] 55))
        have HRB3 := Lib.hid (HRB2.out.alloc (.cells #[.int .u16 0, .int .u16 0, .int .u32 0, .slice none 0 0] 55))
        have HG3 : Hid (Grow w (w2.alloc (.cells #[.int .u16 0, .int .u16 0, .int .u32 0, .slice none 0 0] 55))) := HG2.out.trans (Grow.of_alloc _ _)
        have HBs3 : Hid (w.heap.size + 2 ≤ (w2.alloc (.cells #[.int .u16 0, .int .u16 0, .int .u32 0, .slice none 0 0] 55)).heap.size) := Lib.hid (Nat.le_trans HBs2.out (Grow.of_alloc _ _).size)
        have HGe : Hid (w.heap.size + 2 ≤ w2.heap.size) := HBs2
        generalize w2.alloc _ = w3 at HD3 HBF3 HRB3 HG3 HBs3 ⊢
        generalize w2.heap.size = g8 at HD3 HGe ⊢
        clear HBF2 HRB2 HG2 HBs2
        refine tq_chain ?_
        refine chain_only rfl (by rfl) (fun K hK => ?_)
        go_simp
        refine (HC1.out _ HG3.out).mono ?_
        rintro e w4 ⟨rfl, hg4⟩
        refine hK _ _ (hg4.mono HBs3.out) ?_
        clear hK K
        have HBF4 := Lib.hid (HBF3.out.grow hg4)
        have HRB4 := Lib.hid (HRB3.out.grow hg4)
        have HG4 : Hid (Grow w w4) := HG3.out.trans hg4
        have HBs4 : Hid (w.heap.size + 2 ≤ w4.heap.size) := Lib.hid (Nat.le_trans HBs3.out hg4.size)
        have HD4 := Lib.hid (HD3.out.grow hg4)
        clear hg4 HBF3 HRB3 HG3 HBs3 HD3
        repeat (refine chain_take rfl (by rfl) ?_ (fun W hG => ?_) ?_; rotate_left; (go_simp; rfl); simp only [Act.put, List.setIfInBounds_toArray, List.set_cons_zero, List.set_cons_succ])
        refine chain_only rfl (by rfl) (fun K hK => ?_)
        go_simp
        refine (HC2.out _ HG4.out).mono ?_
        rintro e w5 ⟨rfl, hg5⟩
        refine hK _ _ (hg5.mono HBs4.out) ?_
        clear hK K
        have HBF5 := Lib.hid (HBF4.out.grow hg5)
        have HRB5 := Lib.hid (HRB4.out.grow hg5)
        have HG5 : Hid (Grow w w5) := HG4.out.trans hg5
        have HBs5 : Hid (w.heap.size + 2 ≤ w5.heap.size) := Lib.hid (Nat.le_trans HBs4.out hg5.size)
        have HD5 := Lib.hid (HD4.out.grow hg5)
        clear hg5 HBF4 HRB4 HG4 HBs4 HD4
        repeat (refine chain_take rfl (by rfl) ?_ (fun W hG => ?_) ?_; rotate_left; (go_simp; rfl); simp only [Act.put, List.setIfInBounds_toArray, List.set_cons_zero, List.set_cons_succ])
        refine chain_only rfl (by rfl) (fun K hK => ?_)
        refine wp_store_row 55 (.tmp 7) (.tmp 25) rfl g8 #[.int .u16 (x0 : Int), .int .u16 (x1 : Int), .int .u32 (x2 : Int), .slice none 0 0] rfl rfl _ _ HD5.out (by kernel_rfl) rfl (by simp [Value.oneCell']) ?_
        refine hK _ _ (Below.setRowV _ HGe.out _) ?_
        clear hK K
        refine chain_done (tq_done ?_)
        have hge := HGe.out
        exact ⟨rfl, g8, rfl, rfl, rfl, hge, HD5.out.set _, HBF5.out.other (by omega) _, HRB5.out.other (by omega) _, Grow.set HG5.out (by omega) _⟩
    · go_simp
      refine hK _ _ (Below.alloc (Below.refl _ _) HBs1.out _) ?_
      clear hK K
      have HD2 := Lib.hid (Blk.new w1 55 #[.int .u16 0, .int .u16 0, .int .u32 0, .slice none 0 0])
      have HBF2 := Lib.hid (HBF1.out.alloc (.cells #[.int .u16 0, .int .u16 0, .int .u32 0, .slice none 0 0] 55))
      have HRB2 := Lib.hid (HRB1.out.alloc (.cells #[.int .u16 0, .int .u16 0, .int .u32 0, .slice none 0 0] 55))
      have HG2 : Hid (Grow w (w1.alloc (.cells #[.int .u16 0, .int .u16 0, .int .u32 0, .slice none 0 0] 55))) := HG1.out.trans (Grow.of_alloc _ _)
      have HBs2 : Hid (w.heap.size + 2 ≤ (w1.alloc (.cells #[.int .u16 0, .int .u16 0, .int .u32 0, .slice none 0 0] 55)).heap.size) := Lib.hid (Nat.le_trans HBs1.out (Grow.of_alloc _ _).size)
      have HGe : Hid (w.heap.size + 2 ≤ w1.heap.size) := HBs1
      generalize w1.alloc _ = w2 at HD2 HBF2 HRB2 HG2 HBs2 ⊢
      generalize w1.heap.size = g8 at HD2 HGe ⊢
      clear HBF1 HRB1 HG1 HBs1
      refine tq_chain ?_
      refine chain_only rfl (by rfl) (fun K hK => ?_)
      go_simp
      refine (HC0.out _ HG2.out).mono ?_
      rintro e w3 ⟨rfl, hg3⟩
      refine hK _ _ (hg3.mono HBs2.out) ?_
      clear hK K
      have HBF3 := Lib.hid (HBF2.out.grow hg3)
      have HRB3 := Lib.hid (HRB2.out.grow hg3)
      have HG3 : Hid (Grow w w3) := HG2.out.trans hg3
      have HBs3 : Hid (w.heap.size + 2 ≤ w3.heap.size) := Lib.hid (Nat.le_trans HBs2.out hg3.size)
      have HD3 := Lib.hid (HD2.out.grow hg3)
      clear hg3 HBF2 HRB2 HG2 HBs2 HD2
      repeat (refine chain_take rfl (by rfl) ?_ (fun W hG => ?_) ?_; rotate_left; (go_simp; rfl); simp only [Act.put, List.setIfInBounds_toArray, List.set_cons_zero, List.set_cons_succ])
      refine chain_only rfl (by rfl) (fun K hK => ?_)
      go_simp
      refine (HC1.out _ HG3.out).mono ?_
      rintro e w4 ⟨rfl, hg4⟩
      refine hK _ _ (hg4.mono HBs3.out) ?_
      clear hK K
      have HBF4 := Lib.hid (HBF3.out.grow hg4)
      have HRB4 := Lib.hid (HRB3.out.grow hg4)
      have HG4 : Hid (Grow w w4) := HG3.out.trans hg4
      have HBs4 : Hid (w.heap.size + 2 ≤ w4.heap.size) := Lib.hid (Nat.le_trans HBs3.out hg4.size)
      have HD4 := Lib.hid (HD3.out.grow hg4)
      clear hg4 HBF3 HRB3 HG3 HBs3 HD3
      repeat (refine chain_take rfl (by rfl) ?_ (fun W hG => ?_) ?_; rotate_left; (go_simp; rfl); simp only [Act.put, List.setIfInBounds_toArray, List.set_cons_zero, List.set_cons_succ])
      refine chain_only rfl (by rfl) (fun K hK => ?_)
      go_simp
      refine (HC2.out _ HG4.out).mono ?_
      rintro e w5 ⟨rfl, hg5⟩
      refine hK _ _ (hg5.mono HBs4.out) ?_
      clear hK K
      have HBF5 := Lib.hid (HBF4.out.grow hg5)
      have HRB5 := Lib.hid (HRB4.out.grow hg5)
      have HG5 : Hid (Grow w w5) := HG4.out.trans hg5
      have HBs5 : Hid (w.heap.size + 2 ≤ w5.heap.size) := Lib.hid (Nat.le_trans HBs4.out hg5.size)
      have HD5 := Lib.hid (HD4.out.grow hg5)
      clear hg5 HBF4 HRB4 HG4 HBs4 HD4
      repeat (refine chain_take rfl (by rfl) ?_ (fun W hG => ?_) ?_; rotate_left; (go_simp; rfl); simp only [Act.put, List.setIfInBounds_toArray, List.set_cons_zero, List.set_cons_succ])
      refine chain_only rfl (by rfl) (fun K hK => ?_)
      refine wp_store_row 55 (.tmp 7) (.tmp 25) rfl g8 #[.int .u16 (x0 : Int), .int .u16 (x1 : Int), .int .u32 (x2 : Int), .slice none 0 0] rfl rfl _ _ HD5.out (by kernel_rfl) rfl (by simp [Value.oneCell']) ?_
      refine hK _ _ (Below.setRowV _ HGe.out _) ?_
      clear hK K
      refine chain_done (tq_done ?_)
      have hge := HGe.out
      exact ⟨rfl, g8, rfl, rfl, rfl, hge, HD5.out.set _, HBF5.out.other (by omega) _, HRB5.out.other (by omega) _, Grow.set HG5.out (by omega) _⟩
  · clear HC0 HC1 HC2 z1 z2 z3 bf b4 hg0 hBs
    rintro a' w' ⟨g8, ha, hl, hg, hge, hd, hbf, hrb, hgr⟩
    generalize (a'.tmps.toList.drop 7).take 19 = vs at ha hl hg
    obtain ⟨v0, v1, v2, v3, v4, v5, v6, v7, v8, v9, v10, v11, v12, v13, v14, v15, v16, v17, v18, rfl⟩ := list19 hl
    obtain rfl : v0 = _ := Option.some.inj hg
    subst ha
    clear hl hg
    rename_i K hK
    apply hK
    clear hK K
    simp only [List.take_succ_cons, List.take_zero, List.drop_succ_cons, List.drop_zero, List.cons_append, List.nil_append]
    have mk := makeD n2 hn2' w'
    obtain ⟨q0, q1, q2, q3⟩ := (hd.alloc (.cells (madeCells #[.int .u32 0] n2) 52)).c4
    have q4 := (hd.alloc (.cells (madeCells #[.int .u32 0] n2) 52)).soft 3
    have hgs : w.heap.size + 2 ≤ w'.heap.size := by have := hd.lt; omega
    have HHf := Lib.hid (Half.new w' 52 n2 1 (madeCells #[.int .u32 0] n2) (by simp [madeCells]))
    have HD := Lib.hid (hd.alloc (.cells (madeCells #[.int .u32 0] n2) 52))
    have HBF := Lib.hid (hbf.alloc (.cells (madeCells #[.int .u32 0] n2) 52))
    have HRB := Lib.hid (hrb.alloc (.cells (madeCells #[.int .u32 0] n2) 52))
    have HG : Hid (Grow w (w'.alloc (.cells (madeCells #[.int .u32 0] n2) 52))) := hgr.trans (Grow.of_alloc _ _)
    have HGe := Lib.hid hge
    have HGs := Lib.hid hgs
    have HNe : Hid (g8 < w'.heap.size) := Lib.hid hd.lt
    clear hd hbf hrb hgr hge hgs
    go_wp2_with fail
    obtain ⟨gN, hgN⟩ : ∃ gN, gN = w'.heap.size := ⟨_, rfl⟩
    rw [← hgN] at HHf HGs HNe ⊢
    have HH1 := Lib.hid (HHf.out.cellset (a := ⟨g8, 3, none⟩) (show gN ≠ g8 by have := HNe.out; omega) (.slice (some ⟨gN, 0, none⟩) n2 n2))
    have HD1 := Lib.hid (HD.out.putD (.slice (some ⟨gN, 0, none⟩) n2 n2))
    have HBF1 := Lib.hid (HBF.out.cellset (a := ⟨g8, 3, none⟩) (show w.heap.size ≠ g8 by have := HGe.out; omega) (.slice (some ⟨gN, 0, none⟩) n2 n2))
    have HRB1 := Lib.hid (HRB.out.cellset (a := ⟨g8, 3, none⟩) (show w.heap.size + 1 ≠ g8 by have := HGe.out; omega) (.slice (some ⟨gN, 0, none⟩) n2 n2))
    have HG1 := Lib.hid (Grow.cellset HG.out (g := g8) (by have := HGe.out; omega) 3 (.slice (some ⟨gN, 0, none⟩) n2 n2))
    generalize World.setCell _ _ _ = w8 at HH1 HD1 HBF1 HRB1 HG1 ⊢
    clear HHf HD HBF HRB HG mk q0 q1 q2 q3 q4 hgN y0 y1 y2
    go_loopw [32] (fun i wr => ∃ k : Nat, k ≤ n2 ∧ i = .int .i64 k ∧ Half wr gN 52 1 n2 ((ps.take k).map fun q => #[.int .u32 (G q 4 : Nat)]) ∧ Blk wr g8 55 #[.int .u16 (x0 : Int), .int .u16 (x1 : Int), .int .u32 (x2 : Int), .slice (some ⟨gN, 0, none⟩) n2 n2] ∧ Blk wr w.heap.size 70 #[.slice A n c, .bool big] ∧
      Blk wr (w.heap.size + 1) 55 #[.int .u16 0, .int .u16 0, .int .u32 0, .slice none 0 0] ∧ Grow w wr) (fun i _ => n2 - (intOf i).toNat)
    case atStart => exact ⟨0, Nat.zero_le _, rfl, HH1.out, HD1.out, HBF1.out, HRB1.out, HG1.out⟩
    case round =>
      obtain ⟨k, hk, rfl, hh, hd, hbf, hrb, hg⟩ := hrel
      have HH := Lib.hid hh
      have HD := Lib.hid hd
      have HBF := Lib.hid hbf
      have HRB := Lib.hid hrb
      have HG := Lib.hid hg
      clear hh hd hbf hrb hg HH1 HD1 HBF1 HRB1 HG1
      by_cases hlt : k < n2
      · obtain ⟨b, off, rfl, hb, hcell⟩ := HN.out.pos (by omega)
        have hkl : k < ps.length := by rw [← HNl.out]; exact hlt
        have q0 := (HG.out.cell hb).trans (hcell k hkl)
        have HT : Hid (ps.take (k + 1) = ps.take k ++ [ps[k]]) := Lib.hid (List.take_succ_eq_append_getElem hkl)
        have HL : Hid ((ps.take k).length = k) := Lib.hid (by rw [List.length_take]; omega)
        have HM := Lib.hid (HCk.out ps[k] · (List.getElem_mem hkl))
        generalize ps[k] = q at q0 HT HM
        have hq := HKb.out q
        generalize ps.take k = T0 at HT HL HH
        have z1 : (0 : Int) ≤ (k : Int) := by omega
        have z2 : (k : Int) < (n2 : Int) := by omega
        clear hcell hkl hb
        go_wp2_with fail
        refine wp_region_leap (leap_bar gN) [(0, true), (1, true), (2, true), (3, true), (4, true), (5, false), (6, true), (7, true), (8, false)] (by kernel_rfl) (by kernel_rfl) (by kernel_rfl) ?_
        have hN1 := HNe.out
        have hN2 := HGs.out
        have HX : Hid (∀ W, Bar gN wr.drew W → (_ ∧ _) ∧ (_ ∧ _ ∧ _ ∧ _)) := fun W hW => ⟨((HBF.out.drew).bar hW (by omega)).c2, ((HD.out.drew).bar hW (by omega)).c4⟩
        have HH2 : Hid (Half wr.drew _ _ _ _ _) := HH.out
        have HD2 := Lib.hid HD.out.drew
        have HBF2 := Lib.hid HBF.out.drew
        have HRB2 := Lib.hid HRB.out.drew
        have HG2 : Hid (Grow w wr.drew) := HG.out.trans (Grow.of_drew _)
        generalize wr.drew = w2 at HX HH2 HD2 HBF2 HRB2 HG2 ⊢
        clear HH HD HBF HRB HG hN1 hN2 q0
        repeat (refine chain_take rfl (by rfl) ?_ (fun W hG => ?_) ?_; rotate_left; (obtain ⟨⟨q1, q2⟩, q3, q4, q5, q6⟩ := HX.out W hG; go_simp; rfl); simp only [Act.put, List.setIfInBounds_toArray, List.set_cons_zero, List.set_cons_succ])
        clear HX
        refine chain_only rfl (by rfl) (fun K hK => ?_)
        go_simp
        refine (HM.out _ HG2.out).mono ?_
        rintro e w3 ⟨rfl, hg3⟩
        refine hK _ _ (Bar.of_grow hg3) ?_
        clear hK K
        have HH3 := Lib.hid (HH2.out.grow hg3)
        have HD3 := Lib.hid (HD2.out.grow hg3)
        have HBF3 := Lib.hid (HBF2.out.grow hg3)
        have HRB3 := Lib.hid (HRB2.out.grow hg3)
        have HG3 : Hid (Grow w w3) := HG2.out.trans hg3
        clear hg3 HH2 HD2 HBF2 HRB2 HG2 HM
        have y : IntKind.u32.wrap ((G q 4 : Nat) : Int) = ((G q 4 : Nat) : Int) := by rw [IntKind.wrap_u32]; omega
        repeat (refine chain_take rfl (by rfl) ?_ (fun W hG => ?_) ?_; rotate_left; (go_simp; rfl); simp only [Act.put, List.setIfInBounds_toArray, List.set_cons_zero, List.set_cons_succ])
        refine chain_only rfl (by rfl) (fun K hK => ?_)
        refine wp_store_half 52 (.tmp 44) (.tmp 43) rfl HH3.out (by rw [List.length_map, HL.out]; exact hlt) (r := #[.int .u32 (G q 4 : Nat)]) rfl (by simp [Value.oneCell']) (.int .u32 (G q 4 : Nat)) rfl (by kernel_rfl) rfl (by rw [List.length_map, HL.out]; simp) rfl ?_
        intro cs' hh
        refine hK _ _ (Bar.set _ _ _) ?_
        clear hK K
        refine chain_done ?_
        have HH4 := Lib.hid hh
        have hN1 := HNe.out
        have hN2 := HGs.out
        have HD4 := Lib.hid (HD3.out.other (k := gN) (by omega) cs')
        have HBF4 := Lib.hid (HBF3.out.other (k := gN) (by omega) cs')
        have HRB4 := Lib.hid (HRB3.out.other (k := gN) (by omega) cs')
        have HG4 : Hid (Grow w (w3.setRow gN cs')) := Grow.set HG3.out (by omega) _
        generalize w3.setRow gN cs' = w4 at HH4 HD4 HBF4 HRB4 HG4 ⊢
        clear hh HH3 HD3 HBF3 HRB3 HG3 hN1 hN2 y hq
        go_wp2
        go_roundw
        case rel =>
          exact ⟨k + 1, by omega, by go_num, by rw [HT.out, List.map_append]; exact HH4.out, HD4.out, HBF4.out, HRB4.out, HG4.out⟩
        case measure => simp [intOf]; omega
      · have e : k = n2 := by omega
        subst e
        have HT : Hid (ps.take k = ps) := Lib.hid (by rw [HNl.out]; exact List.take_length)
        rw [HT.out] at HH
        have hN1 := HNe.out
        have hN2 := HGs.out
        have HH5 := Lib.hid (HH.out.other (k := w.heap.size + 1) (by omega) #[.int .u16 (x0 : Int), .int .u16 (x1 : Int), .int .u32 (x2 : Int), .slice (some ⟨gN, 0, none⟩) k k])
        have HR5 := Lib.hid (HRB.out.set #[.int .u16 (x0 : Int), .int .u16 (x1 : Int), .int .u32 (x2 : Int), .slice (some ⟨gN, 0, none⟩) k k])
        have HG5 : Hid (Grow w (wr.setRow (w.heap.size + 1) #[.int .u16 (x0 : Int), .int .u16 (x1 : Int), .int .u32 (x2 : Int), .slice (some ⟨gN, 0, none⟩) k k])) := Grow.set HG.out (by omega) _
        have HZO := Lib.hid (HH5.out.full (base := w.heap.size) (by rw [List.length_map]; exact HNl.out.symm) (by omega) (by unfold maxLen; omega))
        clear hN1 hN2 HH5
        go_wp2_with (first | (refine wpList_load_row rfl 55 (.tmp 7) rfl g8 rfl _ #[.int .u16 (x0 : Int), .int .u16 (x1 : Int), .int .u32 (x2 : Int), .slice (some ⟨gN, 0, none⟩) k k] (0, 0) _ HD.out Try.underlying55 rfl (by kernel_rfl) ?_) | (refine wpList_store_row rfl 55 (.tmp 6) (.tmp 46) rfl (w.heap.size + 1) #[.int .u16 (x0 : Int), .int .u16 (x1 : Int), .int .u32 (x2 : Int), .slice (some ⟨gN, 0, none⟩) k k] rfl rfl _ _ HRB.out (by kernel_rfl) rfl (by simp [Value.oneCell']) ?_))
        refine bodyPost_ret (results_cell_row (cs := #[.int .u16 (x0 : Int), .int .u16 (x1 : Int), .int .u32 (x2 : Int), .slice (some ⟨gN, 0, none⟩) k k]) rfl _ _ (w.heap.size + 1) _ (0, 0) _ rfl HR5.out Try.underlying55 rfl (by kernel_rfl)) rfl ?_
        refine ⟨_, rfl, ⟨_, _, _, rfl, ?_⟩, HG5.out⟩
        have := HZO.out
        simp only [List.map_map]
        exact this
end Go.Proofs.Ytfnaigeakfgpbaa
