/-
  The walk of bezantlaw02.SpanTells: at any stretches it returns true, and nothing that was there has changed.
-/
import Derived.Test.YthhchaoeapnnoaaSpanApartCore
namespace Go.Proofs.Ythhchaoeapnnoaa
open Go.RowKit

/-- What the law's two loops have seen, up to (k, i). -/
def Seen (l : List (Nat × Nat)) (k i x y : Nat) (f r : Bool) : Prop :=
  ((f = false ∧ x = 0 ∧ y = 0 ∧ Bare l k ∧ ∀ i', i' < i → meetAt l i' k = false) ∨ (f = true ∧ First l x y)) ∧
  (r = true ↔ (∀ k', k' < k → ∀ i', i' < k' → belowAt l i' k' = true) ∧ ∀ i', i' < i → belowAt l i' k = true)
theorem Seen.start (l : List (Nat × Nat)) : Seen l 0 0 0 0 false true :=
  ⟨.inl ⟨rfl, rfl, rfl, fun _ h => absurd h (Nat.not_lt_zero _), fun _ h => absurd h (Nat.not_lt_zero _)⟩, fun _ => ⟨fun _ h => absurd h (Nat.not_lt_zero _), fun _ h => absurd h (Nat.not_lt_zero _)⟩, fun _ => rfl⟩
theorem Seen.row {l : List (Nat × Nat)} {k x y : Nat} {f r : Bool} (h : Seen l k k x y f r) : Seen l (k + 1) 0 x y f r := by
  obtain ⟨h1, h2⟩ := h
  refine ⟨?_, h2.trans ⟨fun ⟨h3, h4⟩ => ⟨fun k' hk => ?_, fun _ h => absurd h (Nat.not_lt_zero _)⟩, fun ⟨h3, _⟩ => ⟨fun k' hk => h3 k' (by omega), h3 k (by omega)⟩⟩⟩
  · rcases h1 with ⟨a, b, c, d, e⟩ | h1
    · exact .inl ⟨a, b, c, bare_step d e, fun _ h => absurd h (Nat.not_lt_zero _)⟩
    · exact .inr h1
  · rcases Nat.lt_or_ge k' k with h | h
    · exact h3 k' h
    · obtain rfl : k' = k := by omega
      exact h4
theorem seen_up {l : List (Nat × Nat)} {k i : Nat} {r q : Bool} {p : Prop} (h : r = true ↔ p ∧ ∀ i', i' < i → belowAt l i' k = true) (hq : belowAt l i k = q) : (r && q) = true ↔ p ∧ ∀ i', i' < i + 1 → belowAt l i' k = true := by
  rw [Bool.and_eq_true, h, ← hq]
  constructor
  · rintro ⟨⟨h1, h2⟩, h3⟩
    refine ⟨h1, fun i' hi => ?_⟩
    rcases Nat.lt_or_ge i' i with h4 | h4
    · exact h2 i' h4
    · obtain rfl : i' = i := by omega
      exact h3
  · rintro ⟨h1, h2⟩
    exact ⟨⟨h1, fun i' hi => h2 i' (by omega)⟩, h2 i (by omega)⟩
theorem Seen.found {l : List (Nat × Nat)} {k i x y : Nat} {r q : Bool} (h : Seen l k i x y false r) (hi : i < k) (hk : k < l.length) (hm : meetAt l i k = true) (hq : belowAt l i k = q) : Seen l k (i + 1) i k true (r && q) := by
  obtain ⟨h1, h2⟩ := h
  refine ⟨.inr ⟨rfl, ?_⟩, seen_up h2 hq⟩
  rcases h1 with ⟨_, _, _, d, e⟩ | ⟨h1, _⟩
  · exact ⟨hi, hk, d, e, hm⟩
  · cases h1
theorem Seen.none {l : List (Nat × Nat)} {k i x y : Nat} {f r q : Bool} (h : Seen l k i x y f r) (hm : meetAt l i k = false) (hq : belowAt l i k = q) : Seen l k (i + 1) x y f (r && q) := by
  obtain ⟨h1, h2⟩ := h
  refine ⟨?_, seen_up h2 hq⟩
  rcases h1 with ⟨a, b, c, d, e⟩ | h1
  · exact .inl ⟨a, b, c, d, no_step e hm⟩
  · exact .inr h1
theorem Seen.again {l : List (Nat × Nat)} {k i x y : Nat} {r q : Bool} (h : Seen l k i x y true r) (hq : belowAt l i k = q) : Seen l k (i + 1) x y true (r && q) := by
  obtain ⟨h1, h2⟩ := h
  refine ⟨?_, seen_up h2 hq⟩
  rcases h1 with ⟨h1, _⟩ | h1
  · cases h1
  · exact .inr h1
theorem Seen.rose {l : List (Nat × Nat)} {x y : Nat} {f r r' : Bool} (hs : ∀ j (_ : j < l.length), (l.getD j (0, 0)).1 < 18446744073709551616 ∧ (l.getD j (0, 0)).2 < 18446744073709551616)
    (h : Seen l l.length 0 x y f r) (hr : r' = true ↔ Up l) : r' = r := by
  rw [Bool.eq_iff_iff, hr, h.2]
  constructor
  · intro hu
    exact ⟨fun k hk i hi => up_from hs hu k i hi hk, fun _ h => absurd h (Nat.not_lt_zero _)⟩
  · rintro ⟨h1, _⟩ k h0 hk
    exact h1 k hk (k - 1) (by omega)
theorem Seen.clash {l : List (Nat × Nat)} {x y : Nat} {f r : Bool} {w w' : World} {e : Ending} (h : Seen l l.length 0 x y f r) (hc : Clashed l w e w') : e = .returned (.tuple #[.int .i64 x, .int .i64 y, .bool f]) ∧ Grow w w' := by
  refine ⟨?_, hc.2⟩
  rcases h.1 with ⟨rfl, rfl, rfl, hb, _⟩ | ⟨rfl, hf⟩ <;> rcases hc.1 with ⟨rfl, hb'⟩ | ⟨i, k, rfl, hf'⟩
  · rfl
  · exact absurd hb hf'.not_bare
  · exact absurd hb' hf.not_bare
  · obtain ⟨rfl, rfl⟩ := hf.one hf'
    rfl

set_option maxRecDepth 100000 in
set_option maxHeartbeats 1600000 in
theorem spanTells_core (A : Option Addr) (len c : Nat) (l : List (Nat × Nat)) (a n b m : Nat) (w : World) (h : RS w w.heap.size A len c l)
    (ha : a < 18446744073709551616) (hn : n < 18446744073709551616) (hb : b < 18446744073709551616) (hm : m < 18446744073709551616) :
    Calls Try.prog 3 #[.slice A len c, .agg #[.int .u64 a, .int .u64 n], .agg #[.int .u64 b, .int .u64 m]] w fun e w' => e = .returned (.bool true) ∧ Below w.heap.size w w' := by
  have HR := Lib.hid h
  have HL := Lib.hid h.len
  have hc := h.cap
  have hmx := h.max
  unfold maxLen at hmx
  clear h
  go_enter Try.func3, Try.ntmps3
  go_wp2_with fail
  refine (up2_any _).mono ?_
  rintro e w1 ⟨rfl, hg⟩
  have HG : Hid (Grow w w1) := Lib.hid ((Grow.of_alloc _ _).trans ((Grow.of_alloc _ _).trans hg))
  have HA : Hid (Box w1 w.heap.size a n) := Lib.hid fun W hW => boxed ((Grow.of_alloc _ _).trans (hg.trans hW))
  have HB : Hid (Box w1 (w.heap.size + 1) b m) := Lib.hid fun W hW => by have := boxed (w := w.alloc (.cells #[.int .u64 a, .int .u64 n] 25)) (hg.trans hW); simpa using this
  clear hg
  generalize w.heap.size + 1 = gb at HB ⊢
  go_wp2_with fail
  refine wp_region_chain [(0, true), (1, true), (2, true), (3, true), (4, true), (5, true), (7, true), (8, true), (9, true), (10, true), (11, true), (12, true), (13, true), (14, true), (6, false), (15, false), (16, true), (17, true)] (by kernel_rfl) (by kernel_rfl) (by kernel_rfl) ?_
  have HG3 : Hid (Grow w w1.drew) := Lib.hid (HG.out.trans (Grow.of_drew _))
  have HA3 := Lib.hid (HA.out.grow (Grow.of_drew _))
  have HB3 := Lib.hid (HB.out.grow (Grow.of_drew _))
  generalize w1.drew = w3 at HG3 HA3 HB3 ⊢
  clear HG HA HB
  have a0 := HA3.out.c0
  have a1 := HA3.out.c1
  have b0 := HB3.out.c0
  have b1 := HB3.out.c1
  by_cases hbig : 60 < len
  · have d : decide ((60 : Int) < len) = true := decide_eq_true (by omega)
    repeat (first | (refine chain_take rfl (by rfl) ?_ (fun W hG => ?_) ?_; rotate_left; (go_simp; rfl); simp only [Act.put, List.setIfInBounds_toArray, List.set_cons_zero, List.set_cons_succ]) | (refine chain_skip rfl (by rfl) ?_; simp only [Act.put, List.setIfInBounds_toArray, List.set_cons_zero, List.set_cons_succ]))
    refine chain_none rfl (by rfl) ?_
    simp only [Act.put, List.setIfInBounds_toArray, List.set_cons_zero, List.set_cons_succ]
    refine chain_none rfl (by rfl) ?_
    simp only [Act.put, List.setIfInBounds_toArray, List.set_cons_zero, List.set_cons_succ]
    repeat (first | (refine chain_take rfl (by rfl) ?_ (fun W hG => ?_) ?_; rotate_left; (go_simp; rfl); simp only [Act.put, List.setIfInBounds_toArray, List.set_cons_zero, List.set_cons_succ]) | (refine chain_skip rfl (by rfl) ?_; simp only [Act.put, List.setIfInBounds_toArray, List.set_cons_zero, List.set_cons_succ]))
    refine chain_done ?_
    go_wp2
    go_ret
    exact ⟨rfl, HG3.out⟩
  · have d : decide ((60 : Int) < len) = false := decide_eq_false (by omega)
    repeat (first | (refine chain_take rfl (by rfl) ?_ (fun W hG => ?_) ?_; rotate_left; (go_simp; rfl); simp only [Act.put, List.setIfInBounds_toArray, List.set_cons_zero, List.set_cons_succ]) | (refine chain_skip rfl (by rfl) ?_; simp only [Act.put, List.setIfInBounds_toArray, List.set_cons_zero, List.set_cons_succ]))
    clear a0 a1 b0 b1
    refine chain_only rfl (by rfl) (fun K hK => ?_)
    go_simp
    refine (meet_any a n b m _ ha hn hb hm).mono ?_
    rintro e w5 ⟨rfl, hg⟩
    refine hK _ _ hg ?_
    clear hK K
    have HG5 : Hid (Grow w w5) := Lib.hid (HG3.out.trans hg)
    clear HG3 HA3 HB3 hg
    refine chain_only rfl (by rfl) (fun K hK => ?_)
    go_simp
    refine (refMeet_any a n b m _ ha hn hb hm).mono ?_
    rintro e w6 ⟨rfl, rfl⟩
    refine hK _ _ (Grow.refl _) ?_
    clear hK K
    generalize meetN a n b m = q
    repeat (first | (refine chain_take rfl (by rfl) ?_ (fun W hG => ?_) ?_; rotate_left; (go_simp; rfl); simp only [Act.put, List.setIfInBounds_toArray, List.set_cons_zero, List.set_cons_succ]) | (refine chain_skip rfl (by rfl) ?_; simp only [Act.put, List.setIfInBounds_toArray, List.set_cons_zero, List.set_cons_succ]))
    refine chain_done ?_
    clear d
    go_wp2_with fail
    go_loopw [8, 9, 10, 11, 12] (fun x y f r i wr => ∃ (k X Y : Nat) (F R : Bool), k ≤ len ∧ i = .int .i64 k ∧ x = .int .i64 X ∧ y = .int .i64 Y ∧ f = .bool F ∧ r = .bool R ∧ Seen l k 0 X Y F R ∧ Grow w wr) (fun _ _ _ _ i _ => len - (intOf i).toNat)
    case atStart => exact ⟨0, 0, 0, false, true, by omega, rfl, rfl, rfl, rfl, rfl, Seen.start l, HG5.out⟩
    case round =>
      obtain ⟨k, X, Y, F, R, hk, rfl, rfl, rfl, rfl, rfl, hs, hg⟩ := hrel
      have HS := Lib.hid hs
      have HG := Lib.hid hg
      clear hs hg HG5
      by_cases hlt : k < len
      · go_wp2_with fail
        go_loopw [8, 9, 10, 11, 13] (fun x y f r i wr => ∃ (j X Y : Nat) (F R : Bool), j ≤ k ∧ i = .int .i64 j ∧ x = .int .i64 X ∧ y = .int .i64 Y ∧ f = .bool F ∧ r = .bool R ∧ Seen l k j X Y F R ∧ Grow w wr) (fun _ _ _ _ i _ => k - (intOf i).toNat)
        case atStart => exact ⟨0, X, Y, F, R, by omega, rfl, rfl, rfl, rfl, rfl, HS.out, HG.out⟩
        case round =>
          clear HS HG
          obtain ⟨j, X', Y', F', R', hj, rfl, rfl, rfl, rfl, rfl, hs, hg⟩ := hrel
          have HS := Lib.hid hs
          have HG := Lib.hid hg
          clear hs hg
          by_cases hjk : j < k
          · obtain ⟨bb, off, rfl, _, _⟩ := HR.out.pos (by omega)
            obtain ⟨x, hx⟩ : ∃ x, x = l.getD j (0, 0) := ⟨_, rfl⟩
            obtain ⟨y, hy⟩ : ∃ y, y = l.getD k (0, 0) := ⟨_, rfl⟩
            have hjl : j < l.length := by rw [← HL.out]; omega
            have hkl : k < l.length := by rw [← HL.out]; omega
            have HC : Hid (∀ W, Grow w W → (W.cell? ⟨bb, off + j * 2, none⟩ = some (.int .u64 (x.1 : Nat)) ∧ W.cell? ⟨bb, off + j * 2 + 1, none⟩ = some (.int .u64 (x.2 : Nat))) ∧ (W.cell? ⟨bb, off + k * 2, none⟩ = some (.int .u64 (y.1 : Nat)) ∧ W.cell? ⟨bb, off + k * 2 + 1, none⟩ = some (.int .u64 (y.2 : Nat)))) := by
              rw [hx, hy]; exact Lib.hid fun W hW => ⟨HR.out.at (Nat.le_refl _) hjl hW, HR.out.at (Nat.le_refl _) hkl hW⟩
            have sx := HR.out.small j hjl
            have sy := HR.out.small k hkl
            rw [← hx] at sx
            rw [← hy] at sy
            have HM := Lib.hid (show meetAt l j k = meetN x.1 x.2 y.1 y.2 by rw [hx, hy]; rfl)
            have HQ := Lib.hid (show belowAt l j k = belowN x.1 x.2 y.1 by rw [hx, hy]; rfl)
            clear hx hy
            go_wp2_with fail
            refine wp_region_chain [(0, true), (1, true), (2, true), (3, true), (4, true), (5, true), (6, true), (7, true), (8, true), (9, true), (10, true), (11, true), (12, true), (13, true), (14, true), (15, true), (16, true), (17, true), (18, true), (19, true), (20, false), (21, true)] (by kernel_rfl) (by kernel_rfl) (by kernel_rfl) ?_
            have HD : Hid (Grow w wr.drew) := HG.out.trans (Grow.of_drew _)
            generalize wr.drew = w7 at HD ⊢
            clear HG
            have c0 : ∀ W, Grow w7 W → W.cell? ⟨bb, off + j * 2, none⟩ = some (.int .u64 (x.1 : Nat)) := fun W hW => (HC.out W (HD.out.trans hW)).1.1
            have c1 : ∀ W, Grow w7 W → W.cell? ⟨bb, off + j * 2 + 1, none⟩ = some (.int .u64 (x.2 : Nat)) := fun W hW => (HC.out W (HD.out.trans hW)).1.2
            have c2 : ∀ W, Grow w7 W → W.cell? ⟨bb, off + k * 2, none⟩ = some (.int .u64 (y.1 : Nat)) := fun W hW => (HC.out W (HD.out.trans hW)).2.1
            have c3 : ∀ W, Grow w7 W → W.cell? ⟨bb, off + k * 2 + 1, none⟩ = some (.int .u64 (y.2 : Nat)) := fun W hW => (HC.out W (HD.out.trans hW)).2.2
            have z1 : (j : Int) < len := by omega
            repeat (first | (refine chain_take rfl (by rfl) ?_ (fun W hG => ?_) ?_; rotate_left; (go_simp; rfl); simp only [Act.put, List.setIfInBounds_toArray, List.set_cons_zero, List.set_cons_succ]) | (refine chain_skip rfl (by rfl) ?_; simp only [Act.put, List.setIfInBounds_toArray, List.set_cons_zero, List.set_cons_succ]))
            refine chain_only rfl (by rfl) (fun K hK => ?_)
            go_simp
            refine (refMeet_any _ _ _ _ _ sx.1 sx.2 sy.1 sy.2).mono ?_
            rintro e w8 ⟨rfl, rfl⟩
            refine hK _ _ (Grow.refl _) ?_
            clear hK K c0 c1 c2 c3 z1
            generalize meetN x.1 x.2 y.1 y.2 = q2 at HM ⊢
            repeat (first | (refine chain_take rfl (by rfl) ?_ (fun W hG => ?_) ?_; rotate_left; (go_simp; rfl); simp only [Act.put, List.setIfInBounds_toArray, List.set_cons_zero, List.set_cons_succ]) | (refine chain_skip rfl (by rfl) ?_; simp only [Act.put, List.setIfInBounds_toArray, List.set_cons_zero, List.set_cons_succ]))
            refine chain_done ?_
            cases q2 <;> cases F'
            all_goals
              go_wp2_with fail
              refine wp_region_chain [(0, true), (1, true), (2, true), (3, true), (4, true), (5, true), (6, true), (7, true), (8, true), (9, true), (10, true), (11, true), (12, true), (13, true), (14, true), (15, false), (16, true)] (by kernel_rfl) (by kernel_rfl) (by kernel_rfl) ?_
              have HE : Hid (Grow w w7.drew) := HD.out.trans (Grow.of_drew _)
              generalize w7.drew = w9 at HE ⊢
              clear HD
              have c0 : ∀ W, Grow w9 W → W.cell? ⟨bb, off + j * 2, none⟩ = some (.int .u64 (x.1 : Nat)) := fun W hW => (HC.out W (HE.out.trans hW)).1.1
              have c1 : ∀ W, Grow w9 W → W.cell? ⟨bb, off + j * 2 + 1, none⟩ = some (.int .u64 (x.2 : Nat)) := fun W hW => (HC.out W (HE.out.trans hW)).1.2
              have c2 : ∀ W, Grow w9 W → W.cell? ⟨bb, off + k * 2, none⟩ = some (.int .u64 (y.1 : Nat)) := fun W hW => (HC.out W (HE.out.trans hW)).2.1
              have z1 : (j : Int) < len := by omega
              repeat (first | (refine chain_take rfl (by rfl) ?_ (fun W hG => ?_) ?_; rotate_left; (go_simp; rfl); simp only [Act.put, List.setIfInBounds_toArray, List.set_cons_zero, List.set_cons_succ]) | (refine chain_skip rfl (by rfl) ?_; simp only [Act.put, List.setIfInBounds_toArray, List.set_cons_zero, List.set_cons_succ]))
              refine chain_only rfl (by rfl) (fun K hK => ?_)
              go_simp
              refine (refBelow_any _ _ _ _ sx.1 sx.2).mono ?_
              rintro e w8 ⟨rfl, rfl⟩
              refine hK _ _ (Grow.refl _) ?_
              clear hK K c0 c1 c2 z1
              generalize belowN x.1 x.2 y.1 = q3 at HQ ⊢
              repeat (first | (refine chain_take rfl (by rfl) ?_ (fun W hG => ?_) ?_; rotate_left; (go_simp; rfl); simp only [Act.put, List.setIfInBounds_toArray, List.set_cons_zero, List.set_cons_succ]) | (refine chain_skip rfl (by rfl) ?_; simp only [Act.put, List.setIfInBounds_toArray, List.set_cons_zero, List.set_cons_succ]))
              refine chain_done ?_
            · cases R'
              · go_wp2
                go_roundw
                case rel => exact ⟨j + 1, X', Y', false, false, by omega, by go_num, rfl, rfl, rfl, rfl, HS.out.none HM.out HQ.out, HE.out⟩
                case measure => simp [intOf]; omega
              · go_wp2
                go_roundw
                case rel => exact ⟨j + 1, X', Y', false, q3, by omega, by go_num, rfl, rfl, rfl, rfl, by have := HS.out.none HM.out HQ.out; simpa using this, HE.out⟩
                case measure => simp [intOf]; omega
            · cases R'
              · go_wp2
                go_roundw
                case rel => exact ⟨j + 1, X', Y', true, false, by omega, by go_num, rfl, rfl, rfl, rfl, HS.out.none HM.out HQ.out, HE.out⟩
                case measure => simp [intOf]; omega
              · go_wp2
                go_roundw
                case rel => exact ⟨j + 1, X', Y', true, q3, by omega, by go_num, rfl, rfl, rfl, rfl, by have := HS.out.none HM.out HQ.out; simpa using this, HE.out⟩
                case measure => simp [intOf]; omega
            · cases R'
              · go_wp2
                go_roundw
                case rel => exact ⟨j + 1, j, k, true, false, by omega, by go_num, rfl, rfl, rfl, rfl, HS.out.found hjk hkl HM.out HQ.out, HE.out⟩
                case measure => simp [intOf]; omega
              · go_wp2
                go_roundw
                case rel => exact ⟨j + 1, j, k, true, q3, by omega, by go_num, rfl, rfl, rfl, rfl, by have := HS.out.found hjk hkl HM.out HQ.out; simpa using this, HE.out⟩
                case measure => simp [intOf]; omega
            · cases R'
              · go_wp2
                go_roundw
                case rel => exact ⟨j + 1, X', Y', true, false, by omega, by go_num, rfl, rfl, rfl, rfl, HS.out.again HQ.out, HE.out⟩
                case measure => simp [intOf]; omega
              · go_wp2
                go_roundw
                case rel => exact ⟨j + 1, X', Y', true, q3, by omega, by go_num, rfl, rfl, rfl, rfl, by have := HS.out.again HQ.out; simpa using this, HE.out⟩
                case measure => simp [intOf]; omega
          · obtain rfl : j = k := by omega
            go_wp2
            go_roundw
            case rel => exact ⟨j + 1, X', Y', F', R', by omega, by go_num, rfl, rfl, rfl, rfl, HS.out.row, HG.out⟩
            case measure => simp [intOf]; omega
      · obtain rfl : k = len := by omega
        have HS' : Hid (Seen l l.length 0 X Y F R) := by have := HS.out; rw [HL.out] at this; exact this
        clear HS
        go_wp2_with fail
        refine (clash_any _ _ _ l w.heap.size _ (HR.out.grow (Nat.le_refl _) HG.out) HG.out.size).mono ?_
        rintro e w7 hcl
        obtain ⟨rfl, hg⟩ := HS'.out.clash hcl
        have HG7 : Hid (Grow w w7) := Lib.hid (HG.out.trans hg)
        clear hcl hg HG
        go_wp2_with fail
        refine (rising_any _ _ _ l w.heap.size _ (HR.out.grow (Nat.le_refl _) HG7.out) HG7.out.size).mono ?_
        rintro e w8 ⟨r, rfl, hr, hg⟩
        obtain rfl := HS'.out.rose HR.out.small hr
        have HG8 : Hid (Grow w w8) := Lib.hid (HG7.out.trans hg)
        clear hg hr HG7 HS'
        go_wp2
        go_ret
        exact ⟨rfl, HG8.out⟩
end Go.Proofs.Ythhchaoeapnnoaa
