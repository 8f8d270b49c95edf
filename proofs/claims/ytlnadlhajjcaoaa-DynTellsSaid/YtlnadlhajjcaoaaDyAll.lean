/-
  The contract of dyn.All: the entries of any bytes up to the first one of Tag 0, in new memory; or ErrShort, at the byte at which one begins that isn't whole.
-/
import Derived.Test.YtlnadlhajjcaoaaDyRead
import Derived.Test.YtlnadlhajjcaoaaRoom
import Derived.Test.YtlnadlhajjcaoaaZapp
import Derived.Test.YtlnadlhajjcaoaaFork
import Derived.Test.YtlnadlhajjcaoaaErr
namespace Go.Proofs.Ytlnadlhajjcaoaa
open Go.RowKit

/-- What All answers. -/
def DAll (l : List UInt8) (wide big : Bool) (w : World) (e : Ending) (w' : World) : Prop :=
  (dyIn l wide big = true ∧ ∃ A c, e = .returned (.tuple #[.slice A (dyK l wide big) c, .nilIface]) ∧ ZS w' w'.heap.size 2 A (dyK l wide big) c ((dyns l wide big).map Dy.C) ∧ Grow w w') ∨
  (dyIn l wide big = false ∧ ∃ er, e = .returned (.tuple #[.slice none 0 0, er]) ∧ Err w' er 2 (dyK l wide big * dySize wide) ∧ Grow w w')

theorem Below.setRow' {B g : Nat} (W : World) (hg : B ≤ g) (cs : Array Value) : Below B W (W.setRow g cs) := ⟨rfl, rfl, rfl, by simp, fun k hk => setRow_other W g k cs (by omega)⟩

set_option maxHeartbeats 1000000 in
theorem dAll_any (A : Option Addr) (n c : Nat) (l : List UInt8) (wide big : Bool) (w : World) (h : RB w w.heap.size A n c l) (h10 : l.length ≤ 10000) :
    Calls Try.prog 9 #[.slice A n c, .agg #[.bool wide, .bool big]] w (DAll l wide big w) := by
  have HR := Lib.hid h
  obtain rfl := h.len
  have hcp := h.cap
  have hmx := h.max
  unfold maxLen at hmx
  clear h
  have HSz := Lib.hid (fun w => dySize_any wide big w)
  have HRd : Hid (∀ (q : Nat) (B : Option Addr) (n c : Nat) (w : World), RB w w.heap.size B n c ((l.drop q).take (dySize wide)) → n = dySize wide → Calls Try.prog 21 #[.slice B n c, .agg #[.bool wide, .bool big]] w fun e w' => e = .returned (dyOf l q wide big).V ∧ Grow w w') :=
    Lib.hid (fun q B n c w h hn => by have := dRead_any B n c _ wide big w h hn; rwa [dyOf_sub] at this)
  have hs24 := dySize_le wide
  have hs0 := dySize_pos wide
  have HTo := Lib.hid (dynTo_succ l wide big)
  have HT0 : Hid ((dynTo l wide big 0).map Dy.C = []) := Lib.hid rfl
  have HSy : Hid (dyns l wide big = dynTo l wide big (dyK l wide big)) := Lib.hid rfl
  have HSt := Lib.hid (dy_step l wide big)
  unfold DAll
  generalize dyns l wide big = S at HSy ⊢
  generalize dynTo l wide big = T at HTo HSy HT0
  generalize dySize wide = sz at HSz HRd hs24 hs0 HTo HSt ⊢
  generalize dyK l wide big = K at HSy HSt ⊢
  generalize dyIn l wide big = R at HSt ⊢
  go_enter Try.func9, Try.ntmps9
  go_wp2_with fail
  generalize hW : World.alloc _ _ = W0
  obtain ⟨bf, hg0⟩ := blk1 hW
  clear hW
  refine (HSz.out W0).mono ?_
  rintro e w1 ⟨rfl, hg1⟩
  have HBF1 := Lib.hid (bf.grow hg1)
  have HG1 : Hid (Grow w w1) := hg0.trans hg1
  clear bf hg0 hg1 HSz
  go_wp2_with fail
  go_loopw [6, 8] (fun x i wr => ∃ (k q : Nat) (A2 : Option Addr) (c2 : Nat), k ≤ K ∧ q = k * sz ∧ k ≤ q ∧ q ≤ l.length ∧ i = .int .i64 q ∧ x = .slice A2 k c2 ∧ ZO wr (w.heap.size + 1) 46 2 A2 k c2 ((T k).map Dy.C) ∧
    Blk wr w.heap.size 24 #[.bool wide, .bool big] ∧ Grow w wr) (fun _ i _ => l.length - (intOf i).toNat)
  case atStart => exact ⟨0, 0, none, 0, Nat.zero_le _, by omega, Nat.le_refl _, Nat.zero_le _, rfl, rfl, by rw [HT0.out]; exact ZO.nil, HBF1.out, HG1.out⟩
  case round =>
    obtain ⟨k, q, A2, c2, hk, hq, hkq, hql, rfl, rfl, ho, hbf, hg⟩ := hrel
    have HO := Lib.hid ho
    have HBF := Lib.hid hbf
    have HG := Lib.hid hg
    have HQ := Lib.hid hq
    have hst := HSt.out k hk
    rw [← hq] at hst
    have HK := Lib.hid hst
    have z0 : IntKind.i64.wrap ((l.length : Int) - (q : Int)) = (l.length : Int) - (q : Int) := by rw [IntKind.wrap_i64]; omega
    clear ho hbf hg hst hq HBF1 HG1
    by_cases hlt : q + sz ≤ l.length
    · obtain ⟨b, off, rfl, -, -⟩ := HR.out.pos (by omega)
      have HSub := Lib.hid (HR.out.sub (p := q) (m := sz) hlt hs0)
      have HS1 := Lib.hid (HTo.out k)
      rw [← HQ.out] at HS1
      have HRk := Lib.hid (HRd.out q)
      have HK2 := Lib.hid (HK.out.2.1 hlt)
      have HK3 := Lib.hid (HK.out.2.2 hlt)
      generalize dyOf l q wide big = s at HS1 HRk HK2 HK3
      obtain ⟨tag, val⟩ := s
      unfold Dy.V Dy.C at HRk
      simp only [] at HRk HK2 HK3
      have HS2 : Hid ((T (k + 1)).map Dy.C = (T k).map Dy.C ++ [#[.int .u64 (tag : Int), .int .u64 (val : Int)]]) := Lib.hid (by rw [HS1.out, List.map_append, List.map_cons, List.map_nil]; rfl)
      have z1 : (sz : Int) ≤ (l.length : Int) - (q : Int) := by omega
      have z2 : (q : Int) ≤ (q : Int) + (sz : Int) := by omega
      have z3 : IntKind.i64.wrap ((q : Int) + (sz : Int)) = (q : Int) + (sz : Int) := by rw [IntKind.wrap_i64]; omega
      clear HS1 HK
      go_wp2_with fail
      refine wp_region_tree (leap_below (w.heap.size + 1)) (.chain [(0, true), (1, true), (2, true), (3, true), (4, true), (5, true), (6, true)] (.both 7 (.chain [(8, false), (9, false)] .done) 8 (.chain [(7, false), (9, false)] .done))) (by kernel_rfl) (by kernel_rfl) (by kernel_rfl) ?_
      refine tr_chain ?_
      have HX : Hid (∀ W, Below (w.heap.size + 1) wr.drew W → _ ∧ _) := fun W hW => ((HBF.out.drew).below hW (Nat.lt_succ_self _)).c2
      have HB1 : Hid (Blk wr.drew w.heap.size 24 #[.bool wide, .bool big]) := HBF.out.drew
      have HO1 : Hid (ZO wr.drew _ _ _ _ _ _ _) := HO.out
      have HG1 : Hid (Grow w wr.drew) := HG.out.trans (Grow.of_drew _)
      generalize wr.drew = w3 at HX HB1 HO1 HG1 ⊢
      clear HO HBF HG
      have i1 : (q : Int) + (sz : Int) ≤ (c : Int) := by omega
      have i2 : ¬ c = q := by omega
      have i3 : ((q : Int) + (sz : Int)).toNat = q + sz := by omega
      repeat (refine chain_take rfl (by rfl) ?_ (fun W hG => ?_) ?_; rotate_left; (obtain ⟨q1, q2⟩ := HX.out W hG; go_simp; rfl); simp only [Act.put, List.setIfInBounds_toArray, List.set_cons_zero, List.set_cons_succ])
      clear HX z0 z1 z2 z3 i1 i2 i3
      refine chain_done (tr_both (step_op rfl (by rfl) ?A) (step_op rfl (by rfl) ?B))
      case' A =>
        intro K hK
        go_simp
        refine (HRk.out (some ⟨b, off + q, none⟩) sz (c - q) _ ((HSub.out.belowAt HG1.out (Nat.le_refl _)).more HG1.out.size) rfl).mono ?_
        rintro e w4 ⟨rfl, hg4⟩
        refine hK _ _ (hg4.mono HB1.out.lt) ?_
        clear hK K
        have HB2 := Lib.hid (HB1.out.grow hg4)
        have HO2 := Lib.hid (HO1.out.keep hg4)
        have HG2 : Hid (Grow w w4) := HG1.out.trans hg4
        clear hg4 HB1 HO1 HG1
        refine tr_chain ?_
        refine chain_only rfl (by rfl) (fun K hK => ?_)
        go_simp
        refine hK _ _ (Below.alloc (Below.refl _ _) (show w.heap.size + 1 ≤ w4.heap.size from HB2.out.lt) _) ?_
        clear hK K
        have HD5 := Lib.hid (Blk.new w4 46 #[.int .u64 0, .int .u64 0])
        have HB5 := Lib.hid (HB2.out.alloc (.cells #[.int .u64 0, .int .u64 0] 46))
        have HO5 := Lib.hid (HO2.out.keep (Grow.of_alloc w4 (.cells #[.int .u64 0, .int .u64 0] 46)))
        have HG5 : Hid (Grow w (w4.alloc (.cells #[.int .u64 0, .int .u64 0] 46))) := HG2.out.trans (Grow.of_alloc _ _)
        have HGe : Hid (w.heap.size + 1 ≤ w4.heap.size) := Lib.hid HB2.out.lt
        have HNe : Hid (own A2 ≠ some w4.heap.size) := Lib.hid (HO2.out.ne (.inr (Nat.le_refl _)))
        generalize w4.alloc _ = w5 at HD5 HB5 HO5 HG5 ⊢
        generalize w4.heap.size = g8 at HD5 HGe HNe ⊢
        clear HB2 HO2 HG2
      case' B =>
        intro K hK
        go_simp
        refine hK _ _ (Below.alloc (Below.refl _ _) (show w.heap.size + 1 ≤ w3.heap.size from HB1.out.lt) _) ?_
        clear hK K
        have HD4 := Lib.hid (Blk.new w3 46 #[.int .u64 0, .int .u64 0])
        have HB4 := Lib.hid (HB1.out.alloc (.cells #[.int .u64 0, .int .u64 0] 46))
        have HO4 := Lib.hid (HO1.out.keep (Grow.of_alloc w3 (.cells #[.int .u64 0, .int .u64 0] 46)))
        have HG4 : Hid (Grow w (w3.alloc (.cells #[.int .u64 0, .int .u64 0] 46))) := HG1.out.trans (Grow.of_alloc _ _)
        have HGe : Hid (w.heap.size + 1 ≤ w3.heap.size) := Lib.hid HB1.out.lt
        have HNe : Hid (own A2 ≠ some w3.heap.size) := Lib.hid (HO1.out.ne (.inr (Nat.le_refl _)))
        generalize w3.alloc _ = w4 at HD4 HB4 HO4 HG4 ⊢
        generalize w3.heap.size = g8 at HD4 HGe HNe ⊢
        clear HB1 HO1 HG1
        refine tr_chain ?_
        refine chain_only rfl (by rfl) (fun K hK => ?_)
        go_simp
        refine (HRk.out (some ⟨b, off + q, none⟩) sz (c - q) _ ((HSub.out.belowAt HG4.out (Nat.le_refl _)).more HG4.out.size) rfl).mono ?_
        rintro e w5 ⟨rfl, hg5⟩
        refine hK _ _ (hg5.mono HB4.out.lt) ?_
        clear hK K
        have HD5 := Lib.hid (HD4.out.grow hg5)
        have HB5 := Lib.hid (HB4.out.grow hg5)
        have HO5 := Lib.hid (HO4.out.keep hg5)
        have HG5 : Hid (Grow w w5) := HG4.out.trans hg5
        clear hg5 HD4 HB4 HO4 HG4
      all_goals
        refine chain_only rfl (by rfl) (fun K hK => ?_)
        refine wp_store_row 46 (.tmp 9) (.tmp 28) rfl g8 #[.int .u64 (tag : Int), .int .u64 (val : Int)] rfl rfl _ _ HD5.out (by kernel_rfl) rfl (by simp [Value.oneCell']) ?_
        refine hK _ _ (Below.setRow' _ HGe.out _) ?_
        clear hK K
        have HD7 := Lib.hid (HD5.out.set #[.int .u64 (tag : Int), .int .u64 (val : Int)])
        have HB7 := Lib.hid (HB5.out.other (show w.heap.size ≠ g8 by have := HGe.out; omega) #[.int .u64 (tag : Int), .int .u64 (val : Int)])
        have HG7 : Hid (Grow w (w5.setRow g8 #[.int .u64 (tag : Int), .int .u64 (val : Int)])) := Grow.set HG5.out (by have := HGe.out; omega) _
        have HO7 : Hid (ZO (w5.setRow g8 #[.int .u64 (tag : Int), .int .u64 (val : Int)]) (w.heap.size + 1) 46 2 A2 k c2 ((T k).map Dy.C)) := Lib.hid (HO5.out.other HNe.out _)
        generalize w5.setRow g8 _ = w7 at HD7 HB7 HG7 HO7 ⊢
        clear HD5 HB5 HG5 HO5
        refine chain_done (tr_done ?_)
        have y0 := HD7.out.at 0
        simp at y0
        by_cases ht : tag = 0
        · obtain ⟨rfl, rfl⟩ := HK2.out ht
          subst ht
          go_wp2
          go_ret2
          exact ⟨A2, c2, rfl, by rw [HSy.out]; exact HO7.out.zs, HG7.out⟩
        · have hk1 := HK3.out ht
          have d1 : ((tag : Int) == 0) = false := by simp; omega
          have hal : Below (w.heap.size + 1) w7 (w7.alloc (.cells #[.int .u64 (tag : Int), .int .u64 (val : Int)] 46)) := Below.alloc (Below.refl _ _) HB7.out.lt _
          have HSz := Lib.hid (Nat.le_trans (show w.heap.size + 1 ≤ w7.heap.size from HB7.out.lt) hal.size)
          have HNu := Lib.hid (Blk.new w7 46 #[.int .u64 (tag : Int), .int .u64 (val : Int)])
          have HOA := Lib.hid (HO7.out.keep (Grow.of_alloc w7 (.cells #[.int .u64 (tag : Int), .int .u64 (val : Int)] 46)))
          clear HK2 HK3 ht hal
          go_wp2_with (first | (refine wpList_load_row rfl 46 (.tmp 9) rfl g8 rfl _ #[.int .u64 (tag : Int), .int .u64 (val : Int)] (0, 0) _ HD7.out Try.underlying46 rfl (by kernel_rfl) ?_) | (refine wpList_appendZ (w7.alloc (.cells #[.int .u64 (tag : Int), .int .u64 (val : Int)] 46)) rfl (.tmp 33) (.tmp 35) 22 rfl (w.heap.size + 1) 46 dy0.V 2 16 Try.underlying22 (by kernel_rfl) rfl (by omega) A2 k c2 _ rfl HOA.out w7.heap.size _ _ rfl HNu.out rfl (by simp [Value.oneCell']) (by unfold maxLen; omega) (by omega) HSz.out ?_; intro A5 c5 w9 ho9 hg9 _; refine Hid.out ?_))
          have hal : Below (w.heap.size + 1) w7 (w7.alloc (.cells #[.int .u64 (tag : Int), .int .u64 (val : Int)] 46)) := Below.alloc (Below.refl _ _) HB7.out.lt _
          have hb9 : Below (w.heap.size + 1) w7 w9 := hal.trans ((Below.refl _ _).grown hg9 HSz.out (fun j hj => HO7.out.ge hj))
          have HB9 := Lib.hid (HB7.out.below hb9 (Nat.lt_succ_self _))
          have HG9 : Hid (Grow w w9) := HG7.out.trans' (hb9.mono (Nat.le_succ _))
          have HO9 : Hid (ZO w9 (w.heap.size + 1) 46 2 A5 (k + 1) c5 ((T (k + 1)).map Dy.C)) := by rw [HS2.out]; exact ho9
          clear ho9 hg9 hal hb9 HB7 HD7 HG7 HO7 HSz HNu HOA y0 d1
          refine Lib.hid ?_
          have z4 : IntKind.i64.wrap ((q : Int) + (sz : Int)) = ((q + sz : Nat) : Int) := by rw [IntKind.wrap_i64]; omega
          go_wp2
          go_roundw
          case rel => exact ⟨k + 1, q + sz, A5, c5, hk1, by rw [HQ.out, Nat.succ_mul], by omega, hlt, rfl, rfl, HO9.out, HB9.out, HG9.out⟩
          case measure => simp [intOf]; omega
    · obtain ⟨rfl, rfl⟩ := HK.out.1 (by omega)
      have z1 : ¬ (sz : Int) ≤ (l.length : Int) - (q : Int) := by omega
      have HG2 : Hid (Grow w (wr.alloc (.cells #[.int .i64 (q : Int), .int .i64 2] 58))) := HG.out.trans (Grow.of_alloc _ _)
      have HE : Hid (Err (wr.alloc (.cells #[.int .i64 (q : Int), .int .i64 2] 58)) (.iface 56 (.pointer (some ⟨wr.heap.size, 0, none⟩))) 2 q) := Err.box wr 2 q _ (by omega)
      clear HK
      go_wp2
      go_ret2
      exact ⟨_, rfl, by rw [← HQ.out]; exact HE.out, HG2.out⟩
end Go.Proofs.Ytlnadlhajjcaoaa
