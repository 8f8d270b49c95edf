/-
  The contract of the document's own Dyns: the entries of any bytes up to the first one of Tag 0, or the place of what isn't whole.
-/
import Derived.Test.YtlnadlhajjcaoaaDyA
import Derived.Test.YtlnadlhajjcaoaaRoom
import Derived.Test.YtlnadlhajjcaoaaZapp
import Derived.Test.YtlnadlhajjcaoaaRefNums
import Derived.Test.YtlnadlhajjcaoaaCut
namespace Go.Proofs.Ytlnadlhajjcaoaa
open Go.RowKit

/-- What Dyns answers. -/
def RAllD (l : List UInt8) (wide big : Bool) (w : World) (e : Ending) (w' : World) : Prop :=
  (dyIn l wide big = true ∧ ∃ A c, e = .returned (.tuple #[.slice A (dyK l wide big) c, .int .i64 (-1)]) ∧ ZS w' w'.heap.size 2 A (dyK l wide big) c ((dyns l wide big).map Dy.C) ∧ Grow w w') ∨
  (dyIn l wide big = false ∧ e = .returned (.tuple #[.slice none 0 0, .int .i64 ((dyK l wide big * dySize wide : Nat) : Int)]) ∧ Grow w w')

/-- The cells of two numbers of the call's own. -/
theorem ON.at2 {w : World} {base : Nat} {e : TypeId} {k : IntKind} {A : Option Addr} {c : Nat} {x0 x1 : Nat} (h : ON w base e k A 2 c [x0, x1]) :
    ∃ g cs, A = some ⟨g, 0, none⟩ ∧ base ≤ g ∧ Blk w g e cs ∧ 2 ≤ c ∧ ∀ W, Blk W g e cs → W.cell? ⟨g, 0, none⟩ = some (.int k x0) ∧ W.cell? ⟨g, 1, none⟩ = some (.int k x1) := by
  obtain ⟨g, cs, hA, hb, hB, hc, key⟩ := h.cells (by omega)
  exact ⟨g, cs, hA, hb, hB, hc, fun W hW => ⟨key W hW 0 _ (by omega) rfl, key W hW 1 _ (by omega) rfl⟩⟩

set_option maxHeartbeats 1000000 in
theorem rAllD_any (A : Option Addr) (n c : Nat) (l : List UInt8) (wide big : Bool) (w : World) (h : RB w w.heap.size A n c l) (h10 : l.length ≤ 10000) :
    Calls Try.prog 10 #[.slice A n c, .agg #[.bool wide, .bool big]] w (RAllD l wide big w) := by
  have HR := Lib.hid h
  obtain rfl := h.len
  have hcp := h.cap
  have hmx := h.max
  unfold maxLen at hmx
  clear h
  have HW := Lib.hid (fun w => dWord_any wide big w)
  have hs24 := dySize_le wide
  have hs0 := dySize_pos wide
  have Hsw : Hid (dySize wide = 2 * dyW wide) := Lib.hid rfl
  have HTo := Lib.hid (dynTo_succ l wide big)
  have HT0 : Hid ((dynTo l wide big 0).map Dy.C = []) := Lib.hid rfl
  have HSy : Hid (dyns l wide big = dynTo l wide big (dyK l wide big)) := Lib.hid rfl
  have HSt := Lib.hid (dy_step l wide big)
  have HNu : Hid (∀ (q : Nat) (W : World) (g : Nat), q ≤ l.length → RB W W.heap.size A l.length c l → Blk W g 3 #[.int .i64 (dyW wide : Nat), .int .i64 (dyW wide : Nat)] →
      Calls Try.prog 22 #[.slice A l.length c, .int .u64 q, .slice (some ⟨g, 0, none⟩) 2 2, .bool big] W fun e w' =>
      (q + dySize wide ≤ l.length ∧ ∃ A2 c2, e = .returned (.tuple #[.slice A2 2 c2, .bool true]) ∧ ON w' W.heap.size 26 .u64 A2 2 c2 [(dyOf l q wide big).tag, (dyOf l q wide big).val] ∧ Grow W w') ∨
      (l.length < q + dySize wide ∧ e = .returned (.tuple #[.slice none 0 0, .bool false]) ∧ Grow W w')) := Lib.hid fun q W g hq hr hb => by
    have hns : NS W W.heap.size .i64 (some ⟨g, 0, none⟩) 2 2 (dyRow wide) := NS.of_blkN hb rfl (by decide) hb.lt rfl
    refine (numbersRef_any A l.length c l q _ 2 2 (dyRow wide) big W hr hns (by omega) ?_ (by show 0 < 2; decide) (by show 2 ≤ 100; decide)).mono fun e w' he => ?_
    · intro k hk
      match k, hk with
      | 0, _ => exact dyW_wid wide
      | 1, _ => exact dyW_wid wide
    · rw [Numbed, sum_dyRow, nums_dy] at he
      exact he
  unfold RAllD
  generalize dyns l wide big = S at HSy ⊢
  generalize dynTo l wide big = T at HTo HSy HT0
  generalize dySize wide = sz at hs24 hs0 Hsw HTo HSt HNu ⊢
  generalize dyW wide = wd at Hsw HW HNu
  generalize dyK l wide big = K at HSy HSt ⊢
  obtain ⟨M, hM⟩ : ∃ M, M = K * sz := ⟨_, rfl⟩
  rw [← hM]
  have HM := Lib.hid hM
  clear hM
  generalize dyIn l wide big = R at HSt ⊢
  go_enter Try.func10, Try.ntmps10
  go_wp2_with fail
  generalize hW : World.alloc _ _ = W0
  obtain ⟨bf, hg0⟩ := blk1 hW
  clear hW
  refine (HW.out W0).mono ?_
  rintro e w1 ⟨rfl, hg1⟩
  have HBF1 := Lib.hid (bf.grow hg1)
  have HG1 : Hid (Grow w w1) := hg0.trans hg1
  clear bf hg0 hg1 HW
  go_wp2_with fail
  go_loopw [7, 8] (fun x i wr => ∃ (k q : Nat) (A2 : Option Addr) (c2 : Nat), k ≤ K ∧ q = k * sz ∧ k ≤ q ∧ q ≤ l.length ∧ i = .int .i64 q ∧ x = .slice A2 k c2 ∧ ZO wr (w.heap.size + 1) 46 2 A2 k c2 ((T k).map Dy.C) ∧
    Blk wr w.heap.size 24 #[.bool wide, .bool big] ∧ Grow w wr) (fun _ i _ => l.length - (intOf i).toNat)
  case atStart => exact ⟨0, 0, none, 0, Nat.zero_le _, by omega, Nat.le_refl _, Nat.zero_le _, rfl, rfl, by rw [HT0.out]; exact ZO.nil, HBF1.out, HG1.out⟩
  case round =>
    obtain ⟨k, q, A2, c2, hk, hq, hkq, hql, rfl, rfl, ho, hbf, hg⟩ := hrel
    have HO := Lib.hid ho
    have HBF := Lib.hid hbf
    have HG := Lib.hid hg
    have HQ := Lib.hid hq
    have hst := HSt.out k hk
    rw [← hq] at hst
    have HK := Lib.hid hst
    have z2 : IntKind.u64.wrap (q : Int) = (q : Int) := by rw [IntKind.wrap_u64]; omega
    clear ho hbf hg hst hq HBF1 HG1
    obtain ⟨f0, f1⟩ := (HBF.out.alloc (.cells #[.int .i64 (wd : Int), .int .i64 (wd : Int)] 3)).c2
    go_wp2_with fail
    clear f0 f1 z2
    have HN3 := Lib.hid (Blk.new wr 3 #[.int .i64 (wd : Int), .int .i64 (wd : Int)])
    have HB3 := Lib.hid (HBF.out.alloc (.cells #[.int .i64 (wd : Int), .int .i64 (wd : Int)] 3))
    have HO3 := Lib.hid (HO.out.keep (Grow.of_alloc wr (.cells #[.int .i64 (wd : Int), .int .i64 (wd : Int)] 3)))
    have HG3 : Hid (Grow w (wr.alloc (.cells #[.int .i64 (wd : Int), .int .i64 (wd : Int)] 3))) := HG.out.trans (Grow.of_alloc _ _)
    generalize wr.alloc _ = w3 at HN3 HB3 HO3 HG3 ⊢
    generalize wr.heap.size = g3 at HN3 ⊢
    clear HO HBF HG
    refine (HNu.out q w3 g3 hql (HR.out.grow HG3.out) HN3.out).mono ?_
    rintro e w5 (⟨hin, A4, c4, rfl, ho5, hg5⟩ | ⟨hbad, rfl, hg5⟩)
    · have HS1 := Lib.hid (HTo.out k)
      rw [← HQ.out] at HS1
      have HK2 := Lib.hid (HK.out.2.1 hin)
      have HK3 := Lib.hid (HK.out.2.2 hin)
      generalize dyOf l q wide big = s at HS1 ho5 HK2 HK3
      obtain ⟨tag, val⟩ := s
      simp only [] at ho5 HK2 HK3
      have HS2 : Hid ((T (k + 1)).map Dy.C = (T k).map Dy.C ++ [#[.int .u64 (tag : Int), .int .u64 (val : Int)]]) := Lib.hid (by rw [HS1.out, List.map_append, List.map_cons, List.map_nil]; rfl)
      obtain ⟨gn, cs, rfl, hle4, hbn, hc4, hcells⟩ := ho5.at2
      have HCells := Lib.hid hcells
      have HBN := Lib.hid hbn
      have HNe : Hid (own A2 ≠ some gn) := Lib.hid (HO3.out.ne (.inr hle4))
      have HB5 := Lib.hid (HB3.out.grow hg5)
      have HO5 := Lib.hid (HO3.out.keep hg5)
      have HG5 : Hid (Grow w w5) := HG3.out.trans hg5
      clear HS1 HK hle4 hbn hcells hg5 ho5 HN3 HB3 HO3 HG3
      obtain ⟨y0, -⟩ := HCells.out w5 HBN.out
      by_cases ht : tag = 0
      · obtain ⟨rfl, rfl⟩ := HK2.out ht
        subst ht
        clear HK2 HK3
        go_wp2
        go_ret2
        exact ⟨A2, c2, rfl, by rw [HSy.out]; exact HO5.out.zs, HG5.out⟩
      · have hk1 := HK3.out ht
        have d1 : ((tag : Int) == 0) = false := by simp; omega
        clear HK2 HK3 ht
        go_wp2_with fail
        clear y0 d1
        refine wp_region_leap (leap_kept (fun j => j = gn)) [(0, true), (1, true), (2, true), (3, true), (4, true), (5, true), (6, true), (7, true), (8, false), (9, false), (10, true)] (by kernel_rfl) (by kernel_rfl) (by kernel_rfl) ?_
        have HX : Hid (∀ W, Kept (fun j => j = gn) w5.drew W → _ ∧ _) := fun W hW => HCells.out W ((HBN.out.drew).kept hW rfl)
        have HB6 := Lib.hid HB5.out.drew
        have HO6 : Hid (ZO w5.drew _ _ _ _ _ _ _) := HO5.out
        have HG6 : Hid (Grow w w5.drew) := HG5.out.trans (Grow.of_drew _)
        generalize w5.drew = w6 at HX HB6 HO6 HG6 ⊢
        clear HB5 HO5 HG5 HBN HCells
        repeat (refine chain_take rfl (by rfl) ?_ (fun W hG => ?_) ?_; rotate_left; (obtain ⟨q1, q2⟩ := HX.out W hG; go_simp; rfl); simp only [Act.put, List.setIfInBounds_toArray, List.set_cons_zero, List.set_cons_succ])
        clear HX
        refine chain_only rfl (by rfl) (fun K hK => ?_)
        go_simp
        refine hK _ _ (Kept.of_grow (Grow.of_alloc _ _)) ?_
        clear hK K
        have hal : Below (w.heap.size + 1) w6 (w6.alloc (.cells #[.int .u64 (tag : Int), .int .u64 (val : Int)] 46)) := Below.alloc (Below.refl _ _) HB6.out.lt _
        have HSz := Lib.hid (Nat.le_trans (show w.heap.size + 1 ≤ w6.heap.size from HB6.out.lt) hal.size)
        have HNu2 := Lib.hid (Blk.new w6 46 #[.int .u64 (tag : Int), .int .u64 (val : Int)])
        have HOA := Lib.hid (HO6.out.keep (Grow.of_alloc w6 (.cells #[.int .u64 (tag : Int), .int .u64 (val : Int)] 46)))
        clear hal
        refine chain_only rfl (by rfl) (fun K hK => ?_)
        refine wp_appendZ (w6.alloc (.cells #[.int .u64 (tag : Int), .int .u64 (val : Int)] 46)) (.tmp 33) (.tmp 41) 22 rfl (w.heap.size + 1) 46 dy0.V 2 16 Try.underlying22 (by kernel_rfl) rfl (by omega) A2 k c2 _ rfl HOA.out w6.heap.size _ #[.int .u64 (tag : Int), .int .u64 (val : Int)] rfl HNu2.out rfl (by simp [Value.oneCell']) (by unfold maxLen; omega) (by omega) HSz.out ?_
        intro A5 c5 w9 ho9 hg9 _
        refine hK _ _ ⟨hg9.size, fun j hj hj2 => by subst hj2; exact hg9.block _ hj (by first | exact HNe.out | exact Ne.symm HNe.out)⟩ ?_
        clear hK K
        have hal : Below (w.heap.size + 1) w6 (w6.alloc (.cells #[.int .u64 (tag : Int), .int .u64 (val : Int)] 46)) := Below.alloc (Below.refl _ _) HB6.out.lt _
        have hb9 : Below (w.heap.size + 1) w6 w9 := hal.trans ((Below.refl _ _).grown hg9 HSz.out (fun j hj => HO6.out.ge hj))
        have HB9 := Lib.hid (HB6.out.below hb9 (Nat.lt_succ_self _))
        have HG9 : Hid (Grow w w9) := HG6.out.trans' (hb9.mono (Nat.le_succ _))
        have HO9 : Hid (ZO w9 (w.heap.size + 1) 46 2 A5 (k + 1) c5 ((T (k + 1)).map Dy.C)) := by rw [HS2.out]; exact ho9
        clear ho9 hg9 hal hb9 HB6 HG6 HO6 HSz HNu2 HOA
        repeat (refine chain_take rfl (by rfl) ?_ (fun W hG => ?_) ?_; rotate_left; (go_simp; rfl); simp only [Act.put, List.setIfInBounds_toArray, List.set_cons_zero, List.set_cons_succ])
        refine chain_done ?_
        have z3 : IntKind.i64.wrap (2 * (wd : Int)) = (sz : Int) := by have := Hsw.out; rw [IntKind.wrap_i64]; omega
        have z4 : IntKind.i64.wrap ((q : Int) + (sz : Int)) = ((q + sz : Nat) : Int) := by rw [IntKind.wrap_i64]; omega
        go_wp2
        go_roundw
        case rel => exact ⟨k + 1, q + sz, A5, c5, hk1, by rw [HQ.out, Nat.succ_mul], by omega, hin, rfl, rfl, HO9.out, HB9.out, HG9.out⟩
        case measure => simp [intOf]; omega
    · obtain ⟨rfl, rfl⟩ := HK.out.1 hbad
      have HG5 : Hid (Grow w w5) := HG3.out.trans hg5
      clear HK hbad hg5 HG3 HB3 HO3 HN3
      obtain rfl : q = M := HQ.out.trans HM.out.symm
      go_wp2
      go_ret2
      exact ⟨rfl, HG5.out⟩
end Go.Proofs.Ytlnadlhajjcaoaa
