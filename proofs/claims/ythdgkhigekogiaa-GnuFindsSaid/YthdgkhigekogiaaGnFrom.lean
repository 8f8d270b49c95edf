/-
  The contract of gnu.from: the place that a bucket tells, if a hash has its bits.
-/
import Derived.Test.YthdgkhigekogiaaGnShape
namespace Go.Proofs.Ythdgkhigekogiaa
open Go.RowKit

/-- What from tells. -/
def FromR (word bt place : Nat) (w : World) (e : Ending) (w' : World) : Prop :=
  Grow w w' ∧ ((word &&& bt ≠ bt ∧ e = .returned (.tuple #[.int .u64 0, .bool false])) ∨ (word &&& bt = bt ∧ e = .returned (.tuple #[.int .u64 (place : Int), .bool (decide (place ≠ 0))])))

set_option maxHeartbeats 4000000 in
set_option maxRecDepth 100000 in
theorem from_core (A : Option Addr) (n c : Nat) (l : List UInt8) (b f wd sh z h at_ bt word place : Nat) (wide big : Bool) (w : World) (hr : RB w w.heap.size A n c l) (hz : z = 4 ∨ z = 8) (hb : 1 ≤ b) (hb2 : b ≤ 1024) (hw : 1 ≤ wd) (hw2 : wd ≤ 1024) (hs : sh ≤ 31) (h32 : h < 4294967296)
    (hAt : h / (8 * z) % wd = at_) (hBt : (2 ^ (h % (8 * z)) ||| 2 ^ (h / 2 ^ sh % (8 * z))) = bt) (hbt : bt < 2 ^ 64) (hword : word < 2 ^ 64) (hpl : place = 0 ∨ f ≤ place)
    (hg1 : 16 + at_ * z + z ≤ l.length ∧ getB ((l.drop (16 + at_ * z)).take z) big = word) (hg2 : 16 + wd * z + h % b * 4 + 4 ≤ l.length ∧ getB ((l.drop (16 + wd * z + h % b * 4)).take 4) big = place) :
    Calls Try.prog 24 #[.agg (shC b f wd sh z), .slice A n c, .int .u32 (h : Int), .agg #[.bool wide, .bool big]] w (FromR word bt place w) := by
  have HR := Lib.hid hr
  have HBO := Lib.hid (fun W => bitsOf_any b f wd sh z h W hz hw hs h32)
  rw [hAt, hBt] at HBO
  have hz8 : z ≤ 8 := by omega
  have HHD := Lib.hid (fun W => heads_any b f wd sh z W hw2 hz8)
  have HBU := Lib.hid (fun W => bucket_any b f wd sh z h W hb h32)
  unfold shC at HBO HHD HBU ⊢
  have hat : at_ < 1024 := by rw [← hAt]; exact Nat.lt_of_lt_of_le (Nat.mod_lt _ (by omega)) hw2
  have hk : h % b < 1024 := Nat.lt_of_lt_of_le (Nat.mod_lt _ (by omega)) hb2
  obtain ⟨k, hk2⟩ : ∃ k, k = h % b := ⟨_, rfl⟩
  rw [← hk2] at HBU hg2 hk
  have q1 : at_ * z ≤ 1024 * 8 := Nat.mul_le_mul (by omega) hz8
  have q2 : wd * z ≤ 1024 * 8 := Nat.mul_le_mul hw2 hz8
  have e1 : IntKind.u64.wrap ((at_ : Int) * (z : Int)) = ((at_ * z : Nat) : Int) := by rw [show (at_ : Int) * (z : Int) = ((at_ * z : Nat) : Int) by simp, IntKind.wrap_u64]; omega
  obtain ⟨x, hx⟩ : ∃ x, x = at_ * z := ⟨_, rfl⟩
  rw [← hx] at e1 hg1 q1
  obtain ⟨p1, hp1⟩ : ∃ p, p = 16 + x := ⟨_, rfl⟩
  rw [← hp1] at hg1
  have e2 : IntKind.u64.wrap (16 + (x : Int)) = (p1 : Int) := by rw [IntKind.wrap_u64]; omega
  have e3 : IntKind.i64.wrap (z : Int) = (z : Int) := by rw [IntKind.wrap_i64]; omega
  have e4 : IntKind.u64.wrap ((k : Int) * 4) = (k : Int) * 4 := by rw [IntKind.wrap_u64]; omega
  obtain ⟨y, hy⟩ : ∃ y, y = 16 + wd * z := ⟨_, rfl⟩
  rw [← hy] at HHD hg2
  obtain ⟨p2, hp2⟩ : ∃ p, p = y + k * 4 := ⟨_, rfl⟩
  rw [← hp2] at hg2
  have e5 : IntKind.u64.wrap ((y : Int) + (k : Int) * 4) = (p2 : Int) := by rw [IntKind.wrap_u64]; omega
  have HG1 := Lib.hid (fun B W (hW : RB W B A n c l) => get_at A n c l B p1 z big word W hW hz hg1.1 hg1.2)
  have HG2 := Lib.hid (fun B W (hW : RB W B A n c l) => (get_at A n c l B p2 4 big place W hW (.inl rfl) hg2.1 hg2.2 : Calls Try.prog 25 #[_, _, .int .i64 4, _] _ _))
  have e6 := u64_and_nat word bt hword hbt
  have HP := Lib.hid hpl
  clear hr hz hb hb2 hw hw2 hs h32 hAt hBt hbt hword hg1 hg2 hpl hat hk hk2 q1 q2 hx hp1 hy hp2 hz8
  obtain ⟨o, ho⟩ : ∃ o, o = word &&& bt := ⟨_, rfl⟩
  rw [← ho] at e6
  have HO := Lib.hid ho
  clear ho
  go_enter Try.func24, Try.ntmps24
  go_wp2_with fail
  generalize hW0 : World.alloc _ _ = W0
  obtain ⟨hb1, hb2, hgr⟩ := blk2 hW0
  obtain ⟨gx, hgx⟩ : ∃ g, g = w.heap.size := ⟨_, rfl⟩
  obtain ⟨gf, hgf⟩ : ∃ g, g = w.heap.size + 1 := ⟨_, rfl⟩
  rw [← hgf, ← hgx]
  rw [← hgf] at hb2
  rw [← hgx] at hb1
  have HX0 := Lib.hid hb1
  have HF0 := Lib.hid hb2
  have HG0 := Lib.hid hgr
  clear hW0 hb1 hb2 hgr hgx hgf
  refine (HBO.out _).mono ?_
  rintro e w1 ⟨rfl, hg⟩
  have HX1 := Lib.hid (HX0.out.grow hg)
  have HF1 := Lib.hid (HF0.out.grow hg)
  have HGr1 := Lib.hid (HG0.out.trans hg)
  obtain ⟨c0, c1, c2, c3, c4⟩ := HX1.out.c5
  obtain ⟨k0, k1⟩ := HF1.out.c2
  clear hg HX0 HF0 HG0 HBO
  go_wp2_with fail
  refine (HG1.out _ _ (HR.out.belowAt HGr1.out (Nat.le_refl _))).mono ?_
  rintro e w2 ⟨rfl, m, rfl⟩
  have HX2 : Hid (Blk (w1.drewN m) gx 45 #[.int .u64 (b : Int), .int .u64 (f : Int), .int .u64 (wd : Int), .int .u64 (sh : Int), .int .u64 (z : Int)]) := HX1
  have HF2 : Hid (Blk (w1.drewN m) gf 26 #[.bool wide, .bool big]) := HF1
  have HGr2 : Hid (Grow w (w1.drewN m)) := Lib.hid (below_drewN HGr1.out m)
  clear HX1 HF1 HGr1 HG1 c0 c1 c2 c3 c4 k0 k1 e1 e2 e3
  generalize w1.drewN m = w2 at HX2 HF2 HGr2 ⊢
  by_cases hob : o = bt
  · have HOb : Hid (word &&& bt = bt) := Lib.hid (by rw [← HO.out]; exact hob)
    rw [hob] at e6
    have hne : ((bt : Int) != (bt : Int)) = false := by simp
    clear hob HO
    go_wp2_with fail
    have HX : Hid (∀ W, Grow w2.drew W → (W.cell? ⟨gx, 0, none⟩ = some (.int .u64 (b : Int)) ∧ W.cell? ⟨gx, 1, none⟩ = some (.int .u64 (f : Int)) ∧ W.cell? ⟨gx, 2, none⟩ = some (.int .u64 (wd : Int)) ∧ W.cell? ⟨gx, 3, none⟩ = some (.int .u64 (sh : Int)) ∧ W.cell? ⟨gx, 4, none⟩ = some (.int .u64 (z : Int))) ∧ W.cell? ⟨gf, 0, none⟩ = some (.bool wide) ∧ W.cell? ⟨gf, 1, none⟩ = some (.bool big)) :=
      Lib.hid fun W hW => ⟨((HX2.out.drew).grow hW).c5, ((HF2.out.drew).grow hW).c2⟩
    refine wp_region_chain [(0, true), (1, true), (3, true), (4, true), (8, true), (9, true), (2, false), (5, false), (6, true), (7, true), (10, false), (11, true), (12, true), (13, true), (14, true), (15, true)] (by kernel_rfl) (by kernel_rfl) (by kernel_rfl) ?_
    have HX3 : Hid (Blk w2.drew gx 45 #[.int .u64 (b : Int), .int .u64 (f : Int), .int .u64 (wd : Int), .int .u64 (sh : Int), .int .u64 (z : Int)]) := HX2
    have HGr3 : Hid (Grow w w2.drew) := Lib.hid (HGr2.out.trans (Grow.of_drew _))
    generalize w2.drew = w3 at HX HX3 HGr3 ⊢
    clear HX2 HF2 HGr2 hne e6
    repeat (refine chain_take rfl (by rfl) ?_ (fun W hG => ?_) ?_; rotate_left; (obtain ⟨⟨q1, q2, q3, q4, q5⟩, q6, q7⟩ := HX.out W hG; go_simp; rfl); simp only [Act.put, List.setIfInBounds_toArray, List.set_cons_zero, List.set_cons_succ])
    clear HX
    refine chain_only rfl (by rfl) (fun K hK => ?_)
    go_simp
    refine (HHD.out _).mono ?_
    rintro e w4 ⟨rfl, hg⟩
    refine hK _ _ hg ?_
    clear hK K
    have HX4 := Lib.hid (HX3.out.grow hg)
    have HGr4 := Lib.hid (HGr3.out.trans hg)
    clear hg HX3 HGr3
    refine chain_only rfl (by rfl) (fun K hK => ?_)
    go_simp
    refine (HBU.out _).mono ?_
    rintro e w5 ⟨rfl, hg⟩
    refine hK _ _ hg ?_
    clear hK K
    have HX5 := Lib.hid (HX4.out.grow hg)
    have HGr5 := Lib.hid (HGr4.out.trans hg)
    clear hg HX4 HGr4
    repeat (refine chain_take rfl (by rfl) ?_ (fun W hG => ?_) ?_; rotate_left; (go_simp; rfl); simp only [Act.put, List.setIfInBounds_toArray, List.set_cons_zero, List.set_cons_succ])
    refine chain_only rfl (by rfl) (fun K hK => ?_)
    go_simp
    refine (HG2.out _ _ (HR.out.belowAt HGr5.out (Nat.le_refl _))).mono ?_
    rintro e w6 ⟨rfl, m2, rfl⟩
    refine hK _ _ (Grow.of_drewN _ _) ?_
    clear hK K
    have HX6 : Hid (Blk (w5.drewN m2) gx 45 #[.int .u64 (b : Int), .int .u64 (f : Int), .int .u64 (wd : Int), .int .u64 (sh : Int), .int .u64 (z : Int)]) := HX5
    have HGr6 : Hid (Grow w (w5.drewN m2)) := Lib.hid (below_drewN HGr5.out m2)
    generalize w5.drewN m2 = w6 at HX6 HGr6 ⊢
    clear HX5 HGr5 e4 e5
    repeat (refine chain_take rfl (by rfl) ?_ (fun W hG => ?_) ?_; rotate_left; (go_simp; rfl); simp only [Act.put, List.setIfInBounds_toArray, List.set_cons_zero, List.set_cons_succ])
    refine chain_done ?_
    obtain ⟨c0, c1, c2, c3, c4⟩ := HX6.out.c5
    by_cases hp0 : place = 0
    · have hd : Hid (decide (place ≠ 0) = false) := Lib.hid (decide_eq_false (fun h => h hp0))
      have m1 : ((place : Int) != 0) = false := by simp; exact hp0
      clear hp0
      go_wp2_with fail
      go_quiet (fail)
      go_wp2
      go_ret2
      exact ⟨below_drewN HGr6.out _, .inr ⟨HOb.out, by rw [hd.out]; rfl⟩⟩
    · have hd : Hid (decide (place ≠ 0) = true) := Lib.hid (decide_eq_true hp0)
      have m1 : ((place : Int) != 0) = true := some_of hp0
      have m2 : (f : Int) ≤ (place : Int) := by have := HP.out; omega
      clear hp0
      go_wp2_with fail
      go_quiet (fail)
      go_wp2
      go_ret2
      exact ⟨below_drewN HGr6.out _, .inr ⟨HOb.out, by rw [hd.out]; rfl⟩⟩
  · have HOb : Hid (word &&& bt ≠ bt) := Lib.hid (by rw [← HO.out]; exact hob)
    have hne : ((o : Int) != (bt : Int)) = true := by simp; omega
    clear hob HO
    go_wp2
    go_ret2
    exact ⟨HGr2.out, .inl ⟨HOb.out, rfl⟩⟩
end Go.Proofs.Ythdgkhigekogiaa
