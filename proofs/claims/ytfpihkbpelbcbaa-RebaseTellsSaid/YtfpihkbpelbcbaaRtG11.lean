/-
  Several texts in one: The contract of dyn; A region that draws its order, walked along a tree of orders; The contract of dyn; The contract of rebase.
-/
import Derived.Test.YtfpihkbpelbcbaaRtG10
import Derived.Test.YtfpihkbpelbcbaaRtG4
import Derived.Lib.SmallJoins
import Derived.Test.YtfpihkbpelbcbaaRtG1
import Derived.Test.YtfpihkbpelbcbaaRtG2
import Derived.Test.YtfpihkbpelbcbaaRtG6
import Derived.Laws.ResultCell
namespace Go.Proofs.Ytfpihkbpelbcbaa
open Go.Lib (hid)
open Go.RowKit
set_option maxRecDepth 100000 in
set_option maxHeartbeats 400000 in
theorem dRead_any (A : Option Addr) (n c : Nat) (l : List UInt8) (wide big : Bool) (w : World) (h : RB w w.heap.size A n c l) (hn : n = dySize wide) :
  Calls Try.prog 81 #[.slice A n c, .agg #[.bool wide, .bool big]] w fun e w' => e = .returned (dyOf l 0 wide big).V ∧ Grow w w' := by
 have HR := hid h
 have hl := h.len
 clear h
 have HGet : Hid (∀ (q : Nat) (w' : World), RB w' w.heap.size A n c l → q + dyW wide ≤ n → Calls Try.prog 70 #[.slice A n c, .int .u64 q, .int .i64 (dyW wide : Nat), .bool big] w' fun e w2 =>
   e = .returned (.tuple #[.int .u64 (dyG l wide big q : Nat), .bool true]) ∧ Grow w' w2) := hid fun q w' h hq => by
  have hg : gotB l q (dyW wide : Nat) = true := by
   simp only [gotB, dyW_wid, Bool.true_and, wthn]
   exact decide_eq_true (by omega)
  have hv : gotV l q (dyW wide : Nat) big = dyG l wide big q := by
   simp only [gotV, hg, if_true, Int.toNat_natCast, dyG]
  refine (get_any A n c l _ q (dyW wide : Nat) big w' h (by omega)).mono fun e w2 ⟨he, m, hw⟩ => ?_
  rw [hg, hv] at he
  exact ⟨he, by rw [hw]; exact Grow.of_drewN _ _⟩
 have hO : (dyOf l 0 wide big).V = .agg #[.int .u64 (dyG l wide big 0 : Nat), .int .u64 (dyG l wide big (dyW wide) : Nat)] := by
  simp only [dyOf, Dy.V, Dy.C, Nat.zero_add]
 rw [hO]
 have h2 : dyW wide + dyW wide ≤ n := by rw [hn, dySize]; omega
 have hw8 := dyW_le wide
 have HW := hid (fun w => dyW_any wide big w)
 generalize dyG l wide big = G at HGet ⊢
 generalize dyW wide = wd at HGet HW h2 hw8 ⊢
 clear hn hl hO
 have HG0 : Hid (∀ (w' : World), RB w' w.heap.size A n c l → Calls Try.prog 70 #[.slice A n c, .int .u64 0, .int .i64 (wd : Nat), .bool big] w' fun e w2 => e = .returned (.tuple #[.int .u64 (G 0 : Nat), .bool true]) ∧ Grow w' w2) :=
  hid fun w' h => HGet.out 0 w' h (by omega)
 have HG1 := hid fun w' h => HGet.out wd w' h (by omega)
 generalize G 0 = x0 at HG0 ⊢
 generalize G wd = x1 at HG1 ⊢
 have z1 : IntKind.u64.wrap (wd : Int) = (wd : Int) := by rw [IntKind.wrap_u64]; omega
 clear HGet h2 hw8
 go_enter Try.func81, Try.ntmps81
 go_wp2_with fail
 generalize hW : World.alloc _ _ = W0
 obtain ⟨bf, b4, hg0⟩ := blk2 hW
 have HBF0 := hid bf
 have HB40 := hid b4
 have HG0' := hid hg0
 clear hW bf b4 hg0
 refine (HW.out W0).mono ?_
 rintro e w1 ⟨rfl, hg1⟩
 have HBF1 := hid (HBF0.out.grow hg1)
 have HB41 := hid (HB40.out.grow hg1)
 have HGr1 : Hid (Grow w w1) := HG0'.out.trans hg1
 clear hg1 HBF0 HB40 HG0'
 obtain ⟨f0, f1⟩ := HBF1.out.c2
 go_wp2_with fail
 clear f0 f1
 refine (HG0.out _ (HR.out.belowAt HGr1.out (Nat.le_refl _))).mono ?_
 rintro e w2 ⟨rfl, hg2⟩
 have HBF2 := hid (HBF1.out.grow hg2)
 have HB42 := hid (HB41.out.grow hg2)
 have HGr2 : Hid (Grow w w2) := HGr1.out.trans hg2
 clear hg2 HBF1 HB41 HGr1 HG0
 obtain ⟨f0, f1⟩ := HBF2.out.c2
 go_wp2_with fail
 clear f0 f1 z1
 refine (HG1.out _ (HR.out.belowAt HGr2.out (Nat.le_refl _))).mono ?_
 rintro e w3 ⟨rfl, hg3⟩
 have HB43 := hid (HB42.out.grow hg3)
 have HGr3 : Hid (Grow w w3) := HGr2.out.trans hg3
 clear hg3 HBF2 HB42 HGr2 HG1
 have HG8 : Hid (Grow w (w3.setRow (w.heap.size + 1) #[.int .u64 (x0 : Int), .int .u64 (x1 : Int)])) := Grow.set HGr3.out (Nat.le_succ _) _
 have HB48 := hid (HB43.out.set #[.int .u64 (x0 : Int), .int .u64 (x1 : Int)])
 go_wp2_with (refine wpList_store_row rfl 77 (.tmp 4) (.tmp 32) rfl (w.heap.size + 1) #[.int .u64 (x0 : Int), .int .u64 (x1 : Int)] rfl rfl _ _ HB43.out (by kernel_rfl) rfl (by simp [Value.oneCell']) ?_)
 refine bodyPost_ret (results_cell_row (cs := #[.int .u64 (x0 : Int), .int .u64 (x1 : Int)]) rfl _ _ (w.heap.size + 1) _ (0, 0) _ rfl HB48.out Try.underlying77 rfl (by kernel_rfl)) rfl ?_
 exact ⟨rfl, HG8.out⟩
inductive Tr where
 | done
 | chain (c : Chain) (t : Tr)
 | both (i : Nat) (s : Tr) (j : Nat) (t : Tr)
def Tr.len : Tr → Nat
 | .done => 0
 | .chain c t => c.length + t.len
 | .both _ s _ _ => s.len + 1
def Tr.ok (ops : Array Oper) : Tr → Array Bool → Bool
 | .done, l => Region.ready .any ops l == []
 | .chain c t, l => Chain.ok ops c l && t.ok ops (Chain.after l c)
 | .both i s j t, l => (Region.ready .any ops l == [i, j]) && s.ok ops (l.setIfInBounds i true) && t.ok ops (l.setIfInBounds j true) && (s.len == t.len)
def wpTr (P : Program) (ops : Array Oper) (Q : Exit → Act → World → Prop) (Y : World → World → Prop) : Tr → Act → World → Prop
 | .done, a, w => Q .normal a w
 | .chain c t, a, w => wpChain P ops (NoPanic Q) Y (fun a w => wpTr P ops Q Y t a w) c a w
 | .both i s j t, a, w => wpOp P ops (NoPanic Q) i (fun a' w' => Y w w' ∧ wpTr P ops Q Y s a' w') a w ∧ wpOp P ops (NoPanic Q) j (fun a' w' => Y w w' ∧ wpTr P ops Q Y t a' w') a w
section
variable {P : Program} {ops : Array Oper} {Q : Exit → Act → World → Prop} {Y : World → World → Prop}
theorem wpTr_sound (hy : Leap Y) (hs : Region.noSelect ops = true) : ∀ (t : Tr) (l : Array Bool) (a : Act) (w : World), t.ok ops l = true → wpTr P ops Q Y t a w → wpAnyH P .any ops (NoPanic Q) (Y w) t.len l a w
 | .done, l, a, w, hB, h => ⟨by simpa [Tr.ok] using hB, h⟩
 | .chain c t, l, a, w, hB, h => by
  simp only [Tr.ok, Bool.and_eq_true] at hB
  have := wpChain_sound (P := P) (ops := ops) (Q := NoPanic Q) (Y := Y) (R := fun a w => wpTr P ops Q Y t a w) hy hs (fun _ _ _ h => h) t.len c l a w (fun a w h => wpTr_sound hy hs t _ a w hB.2 h) hB.1 h
  rwa [Nat.add_comm] at this
 | .both i s j t, l, a, w, hB, h => by
  simp only [Tr.ok, Bool.and_eq_true] at hB
  obtain ⟨⟨⟨b1, b2⟩, b3⟩, b4⟩ := hB
  refine wpAnyH_all (rs := [i, j]) (by simpa using b1) (by simp) ?_
  intro k hk
  by_cases hki : k = i
  ·subst hki
   exact wpOp_mono (fun a' w' h' => ⟨h'.1, wpAnyH_weaken (fun W hW => hy.trans _ _ _ h'.1 hW) _ _ _ _ (wpTr_sound hy hs s _ a' w' b2 h'.2)⟩) h.1
  ·obtain rfl : k = j := by
    rcases List.mem_cons.1 hk with e1 | e1
    ·exact absurd e1 hki
    ·simpa using e1
   have e : s.len = t.len := by simpa using b4
   rw [e]
   exact wpOp_mono (fun a' w' h' => ⟨h'.1, wpAnyH_weaken (fun W hW => hy.trans _ _ _ h'.1 hW) _ _ _ _ (wpTr_sound hy hs t _ a' w' b3 h'.2)⟩) h.2
theorem wp_region_tree (hy : Leap Y) {id : Nat} {a : Act} {w : World} (t : Tr) (hm : P.follows .mixedOrders = true) (hs : Region.noSelect ops = true)
  (hB : (t.ok ops (Array.replicate ops.size false) && (t.len == ops.size)) = true) (h : wpTr P ops Q Y t a w.drew) : (Code.region id ops true).wp P Q a w := by
 simp only [Bool.and_eq_true] at hB
 have hl : t.len = ops.size := by simpa using hB.2
 refine wp_region_noPanic (wp_region_held (S := Y w.drew) hm ?_)
 have := wpTr_sound (P := P) (ops := ops) (Q := Q) (Y := Y) hy hs t _ a w.drew hB.1 h
 rwa [hl] at this
theorem tr_done {a : Act} {w : World} (h : Q .normal a w) : wpTr P ops Q Y .done a w := h
theorem tr_chain {c : Chain} {t : Tr} {a : Act} {w : World} (h : wpChain P ops (NoPanic Q) Y (fun a w => wpTr P ops Q Y t a w) c a w) : wpTr P ops Q Y (.chain c t) a w := h
theorem tr_both {i j : Nat} {s t : Tr} {a : Act} {w : World} (h1 : wpOp P ops (NoPanic Q) i (fun a' w' => Y w w' ∧ wpTr P ops Q Y s a' w') a w) (h2 : wpOp P ops (NoPanic Q) j (fun a' w' => Y w w' ∧ wpTr P ops Q Y t a' w') a w) :
  wpTr P ops Q Y (.both i s j t) a w := ⟨h1, h2⟩
end
attribute [irreducible] wpTr
set_option maxRecDepth 100000
def DAllO (l : List UInt8) (wide big : Bool) (w : World) (e : Ending) (w' : World) : Prop :=
 (dyIn l wide big = true ∧ ∃ A c, e = .returned (.tuple #[.slice A (dyK l wide big) c, .nilIface]) ∧ ZO w' w.heap.size 77 2 A (dyK l wide big) c ((dyns l wide big).map Dy.C) ∧ Grow w w') ∨
 (dyIn l wide big = false ∧ ∃ er, e = .returned (.tuple #[.slice none 0 0, er]) ∧ Err w' er 2 (dyK l wide big * dySize wide) ∧ Grow w w')
theorem Below.setRow' {B g : Nat} (W : World) (hg : B ≤ g) (cs : Array Value) : Below B W (W.setRow g cs) := ⟨rfl, rfl, rfl, by simp, fun k hk => setRow_other W g k cs (by omega)⟩
set_option maxHeartbeats 1000000 in
theorem dAllO_any (A : Option Addr) (n c : Nat) (l : List UInt8) (wide big : Bool) (w : World) (h : RB w w.heap.size A n c l) (h10 : l.length ≤ 100000) :
  Calls Try.prog 63 #[.slice A n c, .agg #[.bool wide, .bool big]] w (DAllO l wide big w) := by
 have HR := hid h
 obtain rfl := h.len
 have hcp := h.cap
 have hmx := h.max
 unfold maxLen at hmx
 clear h
 have HSz := hid (fun w => dySize_any wide big w)
 have HRd : Hid (∀ (q : Nat) (B : Option Addr) (n c : Nat) (w : World), RB w w.heap.size B n c ((l.drop q).take (dySize wide)) → n = dySize wide → Calls Try.prog 81 #[.slice B n c, .agg #[.bool wide, .bool big]] w fun e w' => e = .returned (dyOf l q wide big).V ∧ Grow w w') :=
  hid (fun q B n c w h hn => by have := dRead_any B n c _ wide big w h hn; rwa [dyOf_sub] at this)
 have hs24 := dySize_le wide
 have hs0 := dySize_pos wide
 have HTo := hid (dynTo_succ l wide big)
 have HT0 : Hid ((dynTo l wide big 0).map Dy.C = []) := hid rfl
 have HSy : Hid (dyns l wide big = dynTo l wide big (dyK l wide big)) := hid rfl
 have HSt := hid (dy_step l wide big)
 unfold DAllO
 generalize dyns l wide big = S at HSy ⊢
 generalize dynTo l wide big = T at HTo HSy HT0
 generalize dySize wide = sz at HSz HRd hs24 hs0 HTo HSt ⊢
 generalize dyK l wide big = K at HSy HSt ⊢
 generalize dyIn l wide big = R at HSt ⊢
 go_enter Try.func63, Try.ntmps63
 go_wp2_with fail
 generalize hW : World.alloc _ _ = W0
 obtain ⟨bf, hg0⟩ := blk1 hW
 clear hW
 refine (HSz.out W0).mono ?_
 rintro e w1 ⟨rfl, hg1⟩
 have HBF1 := hid (bf.grow hg1)
 have HG1 : Hid (Grow w w1) := hg0.trans hg1
 clear bf hg0 hg1 HSz
 go_wp2_with fail
 go_loopw [6, 8] (fun x i wr => ∃ (k q : Nat) (A2 : Option Addr) (c2 : Nat), k ≤ K ∧ q = k * sz ∧ k ≤ q ∧ q ≤ l.length ∧ i = .int .i64 q ∧ x = .slice A2 k c2 ∧ ZO wr (w.heap.size + 1) 77 2 A2 k c2 ((T k).map Dy.C) ∧
  Blk wr w.heap.size 23 #[.bool wide, .bool big] ∧ Grow w wr) (fun _ i _ => l.length - (intOf i).toNat)
 case atStart => exact ⟨0, 0, none, 0, Nat.zero_le _, by omega, Nat.le_refl _, Nat.zero_le _, rfl, rfl, by rw [HT0.out]; exact ZO.nil, HBF1.out, HG1.out⟩
 case round =>
  obtain ⟨k, q, A2, c2, hk, hq, hkq, hql, rfl, rfl, ho, hbf, hg⟩ := hrel
  have HO := hid ho
  have HBF := hid hbf
  have HG := hid hg
  have HQ := hid hq
  have hst := HSt.out k hk
  rw [← hq] at hst
  have HK := hid hst
  have z0 : IntKind.i64.wrap ((l.length : Int) - (q : Int)) = (l.length : Int) - (q : Int) := by rw [IntKind.wrap_i64]; omega
  clear ho hbf hg hst hq HBF1 HG1
  by_cases hlt : q + sz ≤ l.length
  ·obtain ⟨b, off, rfl, -, -⟩ := HR.out.pos (by omega)
   have HSub := hid (HR.out.sub (p := q) (m := sz) hlt hs0)
   have HS1 := hid (HTo.out k)
   rw [← HQ.out] at HS1
   have HRk := hid (HRd.out q)
   have HK2 := hid (HK.out.2.1 hlt)
   have HK3 := hid (HK.out.2.2 hlt)
   generalize dyOf l q wide big = s at HS1 HRk HK2 HK3
   obtain ⟨tag, val⟩ := s
   unfold Dy.V Dy.C at HRk
   simp only [] at HRk HK2 HK3
   have HS2 : Hid ((T (k + 1)).map Dy.C = (T k).map Dy.C ++ [#[.int .u64 (tag : Int), .int .u64 (val : Int)]]) := hid (by rw [HS1.out, List.map_append, List.map_cons, List.map_nil]; rfl)
   have z1 : (sz : Int) ≤ (l.length : Int) - (q : Int) := by omega
   have z2 : (q : Int) ≤ (q : Int) + (sz : Int) := by omega
   have z3 : IntKind.i64.wrap ((q : Int) + (sz : Int)) = (q : Int) + (sz : Int) := by rw [IntKind.wrap_i64]; omega
   clear HS1 HK
   go_wp2_with fail
   refine wp_region_tree (leap_below (w.heap.size + 1)) (.chain [(0, true), (1, true), (2, true), (3, true), (4, true), (5, true), (6, true)] (.both 7 (.chain [(8, false), (9, false)] .done) 8 (.chain [(7, false), (9, false)] .done))) (by kernel_rfl) (by kernel_rfl) (by kernel_rfl) ?_
   refine tr_chain ?_
   have HX : Hid (∀ W, Below (w.heap.size + 1) wr.drew W → _ ∧ _) := fun W hW => ((HBF.out.drew).below hW (Nat.lt_succ_self _)).c2
   have HB1 : Hid (Blk wr.drew w.heap.size 23 #[.bool wide, .bool big]) := HBF.out.drew
   have HO1 : Hid (ZO wr.drew _ _ _ _ _ _ _) := HO.out
   have HG1 : Hid (Grow w wr.drew) := HG.out.trans (Grow.of_drew _)
   generalize wr.drew = w3 at HX HB1 HO1 HG1 ⊢
   clear HO HBF HG
   have i1 : (q : Int) + (sz : Int) ≤ (c : Int) := by omega
   have i2 : ¬ c = q := by omega
   have i3 : ((q : Int) + (sz : Int)).toNat = q + sz := by omega
   repeat (refine chain_take rfl (by rfl) ?_ (fun W hG => ?_) ?_; rotate_left; (obtain ⟨q1, q2⟩ := HX.out W hG; go_simp; rfl); simp only [Act.put, List.setIfInBounds_toArray, List.set_cons_zero, List.set_cons_succ])
   clear HX z0 z1 z2 z3 i1 i2 i3
   refine chain_done (tr_both (step_op rfl (by rfl) ?A) (step_op rfl (by rfl) ?B))
   case' A =>
    intro K hK
    go_simp
    refine (HRk.out (some ⟨b, off + q, none⟩) sz (c - q) _ ((HSub.out.belowAt HG1.out (Nat.le_refl _)).more HG1.out.size) rfl).mono ?_
    rintro e w4 ⟨rfl, hg4⟩
    refine hK _ _ (hg4.mono HB1.out.lt) ?_
    clear hK K
    have HB2 := hid (HB1.out.grow hg4)
    have HO2 := hid (HO1.out.keep hg4)
    have HG2 : Hid (Grow w w4) := HG1.out.trans hg4
    clear hg4 HB1 HO1 HG1
    refine tr_chain ?_
    refine chain_only rfl (by rfl) (fun K hK => ?_)
    go_simp
    refine hK _ _ (Below.alloc (Below.refl _ _) (show w.heap.size + 1 ≤ w4.heap.size from HB2.out.lt) _) ?_
    clear hK K
    have HD5 := hid (Blk.new w4 77 #[.int .u64 0, .int .u64 0])
    have HB5 := hid (HB2.out.alloc (.cells #[.int .u64 0, .int .u64 0] 77))
    have HO5 := hid (HO2.out.keep (Grow.of_alloc w4 (.cells #[.int .u64 0, .int .u64 0] 77)))
    have HG5 : Hid (Grow w (w4.alloc (.cells #[.int .u64 0, .int .u64 0] 77))) := HG2.out.trans (Grow.of_alloc _ _)
    have HGe : Hid (w.heap.size + 1 ≤ w4.heap.size) := hid HB2.out.lt
    have HNe : Hid (own A2 ≠ some w4.heap.size) := hid (HO2.out.ne (.inr (Nat.le_refl _)))
    generalize w4.alloc _ = w5 at HD5 HB5 HO5 HG5 ⊢
    generalize w4.heap.size = g8 at HD5 HGe HNe ⊢
    clear HB2 HO2 HG2
   case' B =>
    intro K hK
    go_simp
    refine hK _ _ (Below.alloc (Below.refl _ _) (show w.heap.size + 1 ≤ w3.heap.size from HB1.out.lt) _) ?_
    clear hK K
    have HD4 := hid (Blk.new w3 77 #[.int .u64 0, .int .u64 0])
    have HB4 := hid (HB1.out.alloc (.cells #[.int .u64 0, .int .u64 0] 77))
    have HO4 := hid (HO1.out.keep (Grow.of_alloc w3 (.cells #[.int .u64 0, .int .u64 0] 77)))
    have HG4 : Hid (Grow w (w3.alloc (.cells #[.int .u64 0, .int .u64 0] 77))) := HG1.out.trans (Grow.of_alloc _ _)
    have HGe : Hid (w.heap.size + 1 ≤ w3.heap.size) := hid HB1.out.lt
    have HNe : Hid (own A2 ≠ some w3.heap.size) := hid (HO1.out.ne (.inr (Nat.le_refl _)))
    generalize w3.alloc _ = w4 at HD4 HB4 HO4 HG4 ⊢
    generalize w3.heap.size = g8 at HD4 HGe HNe ⊢
    clear HB1 HO1 HG1
    refine tr_chain ?_
    refine chain_only rfl (by rfl) (fun K hK => ?_)
    go_simp
    refine (HRk.out (some ⟨b, off + q, none⟩) sz (c - q) _ ((HSub.out.belowAt HG4.out (Nat.le_refl _)).more HG4.out.size) rfl).mono ?_
    rintro e w5 ⟨rfl, hg5⟩
    refine hK _ _ (hg5.mono HB4.out.lt) ?_
    clear hK K
    have HD5 := hid (HD4.out.grow hg5)
    have HB5 := hid (HB4.out.grow hg5)
    have HO5 := hid (HO4.out.keep hg5)
    have HG5 : Hid (Grow w w5) := HG4.out.trans hg5
    clear hg5 HD4 HB4 HO4 HG4
   all_goals
    refine chain_only rfl (by rfl) (fun K hK => ?_)
    refine wp_store_row 77 (.tmp 9) (.tmp 28) rfl g8 #[.int .u64 (tag : Int), .int .u64 (val : Int)] rfl rfl _ _ HD5.out (by kernel_rfl) rfl (by simp [Value.oneCell']) ?_
    refine hK _ _ (Below.setRow' _ HGe.out _) ?_
    clear hK K
    have HD7 := hid (HD5.out.set #[.int .u64 (tag : Int), .int .u64 (val : Int)])
    have HB7 := hid (HB5.out.other (show w.heap.size ≠ g8 by have := HGe.out; omega) #[.int .u64 (tag : Int), .int .u64 (val : Int)])
    have HG7 : Hid (Grow w (w5.setRow g8 #[.int .u64 (tag : Int), .int .u64 (val : Int)])) := Grow.set HG5.out (by have := HGe.out; omega) _
    have HO7 : Hid (ZO (w5.setRow g8 #[.int .u64 (tag : Int), .int .u64 (val : Int)]) (w.heap.size + 1) 77 2 A2 k c2 ((T k).map Dy.C)) := hid (HO5.out.other HNe.out _)
    generalize w5.setRow g8 _ = w7 at HD7 HB7 HG7 HO7 ⊢
    clear HD5 HB5 HG5 HO5
    refine chain_done (tr_done ?_)
    have y0 := HD7.out.at 0
    simp at y0
    by_cases ht : tag = 0
    ·obtain ⟨rfl, rfl⟩ := HK2.out ht
     subst ht
     go_wp2
     go_ret2
     exact ⟨A2, c2, rfl, by rw [HSy.out]; exact HO7.out.mono (Nat.le_succ _), HG7.out⟩
    ·have hk1 := HK3.out ht
     have d1 : ((tag : Int) == 0) = false := by simp; omega
     have hal : Below (w.heap.size + 1) w7 (w7.alloc (.cells #[.int .u64 (tag : Int), .int .u64 (val : Int)] 77)) := Below.alloc (Below.refl _ _) HB7.out.lt _
     have HSz := hid (Nat.le_trans (show w.heap.size + 1 ≤ w7.heap.size from HB7.out.lt) hal.size)
     have HNu := hid (Blk.new w7 77 #[.int .u64 (tag : Int), .int .u64 (val : Int)])
     have HOA := hid (HO7.out.keep (Grow.of_alloc w7 (.cells #[.int .u64 (tag : Int), .int .u64 (val : Int)] 77)))
     clear HK2 HK3 ht hal
     go_wp2_with (first | (refine wpList_load_row rfl 77 (.tmp 9) rfl g8 rfl _ #[.int .u64 (tag : Int), .int .u64 (val : Int)] (0, 0) _ HD7.out Try.underlying77 rfl (by kernel_rfl) ?_) | (refine wpList_appendZ (w7.alloc (.cells #[.int .u64 (tag : Int), .int .u64 (val : Int)] 77)) rfl (.tmp 33) (.tmp 35) 73 rfl (w.heap.size + 1) 77 dy0.V 2 16 Try.underlying73 (by kernel_rfl) rfl (by omega) A2 k c2 _ rfl HOA.out w7.heap.size _ _ rfl HNu.out rfl (by simp [Value.oneCell']) (by unfold maxLen; omega) (by omega) HSz.out ?_; intro A5 c5 w9 ho9 hg9 _; refine Hid.out ?_))
     have hal : Below (w.heap.size + 1) w7 (w7.alloc (.cells #[.int .u64 (tag : Int), .int .u64 (val : Int)] 77)) := Below.alloc (Below.refl _ _) HB7.out.lt _
     have hb9 : Below (w.heap.size + 1) w7 w9 := hal.trans ((Below.refl _ _).grown hg9 HSz.out (fun j hj => HO7.out.ge hj))
     have HB9 := hid (HB7.out.below hb9 (Nat.lt_succ_self _))
     have HG9 : Hid (Grow w w9) := HG7.out.trans' (hb9.mono (Nat.le_succ _))
     have HO9 : Hid (ZO w9 (w.heap.size + 1) 77 2 A5 (k + 1) c5 ((T (k + 1)).map Dy.C)) := by rw [HS2.out]; exact ho9
     clear ho9 hg9 hal hb9 HB7 HD7 HG7 HO7 HSz HNu HOA y0 d1
     refine hid ?_
     have z4 : IntKind.i64.wrap ((q : Int) + (sz : Int)) = ((q + sz : Nat) : Int) := by rw [IntKind.wrap_i64]; omega
     go_wp2
     go_roundw
     case rel => exact ⟨k + 1, q + sz, A5, c5, hk1, by rw [HQ.out, Nat.succ_mul], by omega, hlt, rfl, rfl, HO9.out, HB9.out, HG9.out⟩
     case measure => simp [intOf]; omega
  ·obtain ⟨rfl, rfl⟩ := HK.out.1 (by omega)
   have z1 : ¬ (sz : Int) ≤ (l.length : Int) - (q : Int) := by omega
   have HG2 : Hid (Grow w (wr.alloc (.cells #[.int .i64 (q : Int), .int .i64 2] 131))) := HG.out.trans (Grow.of_alloc _ _)
   have HE : Hid (Err (wr.alloc (.cells #[.int .i64 (q : Int), .int .i64 2] 131)) (.iface 129 (.pointer (some ⟨wr.heap.size, 0, none⟩))) 2 q) := Err.box wr 2 q _ (by omega)
   clear HK
   go_wp2
   go_ret2
   exact ⟨_, rfl, by rw [← HQ.out]; exact HE.out, HG2.out⟩
set_option maxRecDepth 100000
set_option linter.unusedVariables false
def entsOf (l : List UInt8) (wide big : Bool) : List Dy := if dyIn l wide big then dyns l wide big else []
theorem dAll_uni (A : Option Addr) (n c : Nat) (l : List UInt8) (wide big : Bool) (w : World) (h : RB w w.heap.size A n c l) (h10 : l.length ≤ 100000) :
  Calls Try.prog 63 #[.slice A n c, .agg #[.bool wide, .bool big]] w fun e w' => ∃ A2 n2 c2 er, e = .returned (.tuple #[.slice A2 n2 c2, er]) ∧ ZO w' w.heap.size 77 2 A2 n2 c2 ((entsOf l wide big).map Dy.C) ∧ Grow w w' := by
 refine (dAllO_any A n c l wide big w h h10).mono ?_
 rintro e w' (⟨hi, A2, c2, rfl, h2, hg⟩ | ⟨hi, er, rfl, -, hg⟩)
 ·exact ⟨A2, _, c2, .nilIface, rfl, by unfold entsOf; rw [if_pos hi]; exact h2, hg⟩
 ·exact ⟨none, 0, 0, er, rfl, by unfold entsOf; rw [if_neg (by rw [hi]; decide)]; exact ZO.nil, hg⟩
theorem Md.ents_of (m : Md) : m.ents = if m.hasDyn then entsOf m.dynB m.wide m.big else [] := rfl
def Md.Small (m : Md) : Prop := ∀ s ∈ m.segs, s.pl.own.length ≤ 100000
theorem Md.bytes_le {m : Md} (h : m.Small) {p : Pl} (hp : p.own.length ≤ 100000) : (m.bytes p).length ≤ 100000 := by
 unfold Md.bytes
 split
 ·exact hp
 ·split
  ·rename_i h1
   rw [Bool.and_eq_true] at h1
   obtain ⟨i, hi, hil⟩ := isSegN_true h1.1
   rw [hi, m.seg_nat i hil]
   have := h _ (List.getElem_mem hil)
   rw [List.length_take, List.length_drop]
   omega
  ·simp
theorem dyn_ret {K : Ending → World → Prop} {W : World} {tmps : Array Value} {g : Nat} {ev : Value} {cs : Array Value} (ht : tmps.getD 2 undef = .pointer (some ⟨g, 0, none⟩)) (he : tmps.getD 3 undef = ev) (hz : cs.size = 4)
  (hx : Blk W g 46 cs) (hk : K (.returned (.tuple #[.agg cs, ev])) W) : bodyPost Try.prog Try.f42 K .ret ⟨tmps, []⟩ W := by
 refine bodyPost_ret (v := .tuple #[.agg cs, ev]) ?_ rfl hk
 rw [results_cell_tmp rfl, ht, he]
 simp [asAddr, Result.andThen, hx.var _ _ Try.underlying46 rfl (by rw [hz]; kernel_rfl)]
theorem dynI_hit (m : Md) (k : Nat) (hk : k < m.segs.length) (hf : k ≤ m.dynI) (h : decide (m.segs[k].typ = 2) = true) : m.dynP = m.segs[k].pl ∧ m.ents = entsOf (m.bytes m.segs[k].pl) m.wide m.big := by
 have e : m.dynI = k := (fi_step hf).1 hk h
 have hd : m.hasDyn = true := by unfold Md.hasDyn; rw [e]; exact decide_eq_true hk
 have hs : m.dynS = m.segs[k] := by unfold Md.dynS; rw [e]; exact getD_at hk
 refine ⟨by unfold Md.dynP; rw [if_pos hd, hs], by rw [m.ents_of, if_pos hd]; unfold Md.dynB; rw [hs]⟩
theorem dynI_on (m : Md) (k : Nat) (hk : k < m.segs.length) (hf : k ≤ m.dynI) (h : decide (m.segs[k].typ = 2) = false) : k + 1 ≤ m.dynI := (fi_step hf).2.1 hk h
theorem dynI_end (m : Md) (k : Nat) (hk : m.segs.length ≤ k) (hf : k ≤ m.dynI) : m.dynP = plX ∧ m.ents = [] := by
 have e : m.dynI = m.segs.length := (fi_step hf).2.2 hk
 have hd : m.hasDyn = false := by unfold Md.hasDyn; rw [e]; exact decide_eq_false (Nat.lt_irrefl _)
 refine ⟨by unfold Md.dynP; rw [if_neg (by rw [hd]; decide)], by rw [m.ents_of, if_neg (by rw [hd]; decide)]⟩
set_option maxHeartbeats 4000000 in
theorem rbDynamic_any (m : Md) (ok : m.Ok) (hsm : m.Small) (A1 : Option Addr) (n1 c1 : Nat) (A2 : Option Addr) (n2 c2 : Nat) (w : World) (g1 : ZR sgK w w.heap.size A1 n1 c1 m.segs) :
  Calls Try.prog 42 #[.agg (mdC m (.slice A1 n1 c1) (.slice A2 n2 c2))] w fun e w' => ∃ Ap np cp AL nL cL, e = .returned (.tuple #[.agg (plC m.dynP (.slice Ap np cp)), .slice AL nL cL]) ∧ ZO w' w.heap.size 77 2 AL nL cL (m.ents.map Dy.C) ∧ Grow w w' := by
 have HS := hid g1
 have HL := hid g1.len
 have HH := hid (dynI_hit m)
 have HO := hid (dynI_on m)
 have HE := hid (dynI_end m)
 have HBy : Hid (∀ (s : Sg), s ∈ m.segs → ∀ A n c W, Grow w W → RB W W.heap.size A n c s.pl.own → Calls Try.prog 64 #[.agg (mdC m (.slice A1 n1 c1) (.slice A2 n2 c2)), .agg (plC s.pl (.slice A n c))] W (NewB (m.bytes s.pl) W)) := hid fun s hs A n c W hW g => mBytes_any m A1 A2 n1 c1 n2 c2 s.pl (ok.segs s hs).pl A n c W (g1.grow hW) g (Nat.le_trans (Md.bytes_le hsm (hsm s hs)) (by decide))
 have HAl : Hid (∀ (s : Sg), s ∈ m.segs → ∀ A n c W, RB W W.heap.size A n c (m.bytes s.pl) → _) := hid fun s hs A n c W h => dAll_uni A n c (m.bytes s.pl) m.wide m.big W h (Md.bytes_le hsm (hsm s hs))
 have hcc := g1.cap
 have hcm := g1.max
 unfold maxLen at hcm
 obtain ⟨x2, x3, x4, x5, x6, x7, x10, hC⟩ : ∃ x2 x3 x4 x5 x6 x7 x10 : Value, mdC m (.slice A1 n1 c1) (.slice A2 n2 c2) = #[.bool m.wide, .bool m.big, x2, x3, x4, x5, x6, x7, .slice A1 n1 c1, .slice A2 n2 c2, x10] := ⟨_, _, _, _, _, _, _, rfl⟩
 rw [hC] at HBy ⊢
 clear hC g1 ok hsm
 generalize m.dynP = DP at *
 generalize m.ents = DE at *
 generalize m.dynI = F at *
 generalize m.bytes = by_ at *
 generalize m.wide = wi at *
 generalize m.big = bi at *
 generalize m.segs = l at *
 go_enter Try.func42, Try.ntmps42
 go_wp2_with fail
 generalize hW : World.alloc _ _ = W0
 obtain ⟨b1, b2, hg0⟩ := blk2 hW
 clear hW
 obtain ⟨gm, hgm⟩ : ∃ g, g = w.heap.size := ⟨_, rfl⟩
 rw [← hgm] at b1 b2 ⊢
 have v8 := b1.at 8
 simp at v8
 have HG0 := hid hg0
 have HB0 := hid b1
 have HR0 := hid b2
 have HNe : Hid (w.heap.size ≤ gm + 1 ∧ gm ≠ gm + 1) := hid (by omega)
 clear b1 b2 hg0 hgm
 generalize gm + 1 = gr at *
 go_wp2_with fail
 clear v8
 go_loopw [11] (fun i wr => ∃ k : Nat, k ≤ n1 ∧ i = .int .i64 k ∧ k ≤ F ∧ Grow W0 wr) (fun i _ => n1 - (intOf i).toNat)
 case atStart => exact ⟨0, Nat.zero_le _, rfl, Nat.zero_le _, Grow.refl _⟩
 case round =>
  obtain ⟨k, hk, rfl, hkF, hg⟩ := hrel
  have HG := hid hg
  have HKF := hid hkF
  have HB1 := hid (HB0.out.grow hg)
  have HR1 := hid (HR0.out.grow hg)
  have HGw : Hid (Grow w wr) := hid (HG0.out.trans hg)
  clear hg hkF HB0 HR0 HG0
  by_cases hlt : k < n1
  ·obtain ⟨b, off, rfl, hb⟩ := HS.out.pos (by omega)
   have hkl : k < l.length := by rw [← HL.out]; exact hlt
   obtain ⟨RR, hR, hrow⟩ := (HS.out.belowAt HGw.out (Nat.le_refl _)).row
   obtain ⟨hkR, A3, nk, ck, e1, hby⟩ := hrow k hkl
   have HRr : Hid (ZS wr w.heap.size 10 (some ⟨b, off, none⟩) n1 c1 RR) := hid hR
   have HkR := hid hkR
   have HE1 : Hid (∀ hk : k < RR.length, RR[k] = sgC l[k] (.slice A3 nk ck)) := hid fun _ => e1
   have HRB : Hid (RB wr wr.heap.size A3 nk ck l[k].pl.own) := hid (hby.more HGw.out.size)
   have HHk := hid (HH.out k hkl HKF.out)
   have HOk' := hid (HO.out k hkl HKF.out)
   have HByk := hid (HBy.out l[k] (List.getElem_mem hkl))
   have HAlk := hid (HAl.out l[k] (List.getElem_mem hkl))
   clear hR hkR e1 hrow hb hby HH HO HE HBy HAl
   unfold sgC at HE1
   generalize l[k] = s at *
   have w0 : (0 : Int) ≤ (k : Int) := by omega
   have w1 : (k : Int) < (n1 : Int) := by omega
   by_cases h2 : s.typ = 2
   ·have HDP := hid (HHk.out (decide_eq_true h2)).1
    have HDE := hid (HHk.out (decide_eq_true h2)).2
    rw [h2] at HE1
    unfold plC at HByk
    have HPl : Hid (plC DP (.slice A3 nk ck) = #[.int .i64 s.pl.inn, .int .u64 (s.pl.off : Nat), .int .u64 (s.pl.size : Nat), .slice A3 nk ck]) := hid (by rw [HDP.out]; rfl)
    clear HHk HOk' h2
    generalize entsOf (by_ s.pl) wi bi = EE at HAlk HDE
    generalize by_ s.pl = bl at *
    generalize s.pl.own = so at *
    generalize s.flags = y1 at *
    generalize s.vaddr = y2 at *
    generalize s.paddr = y3 at *
    generalize s.memsz = y4 at *
    generalize s.align = y5 at *
    generalize s.pl.inn = y6 at *
    generalize s.pl.off = y7 at *
    generalize s.pl.size = y8 at *
    go_wp2_with (first | (refine wpList_load_zs HRr.out HkR.out rfl 48 (.tmp 13) rfl rfl _ Try.underlying48 rfl (by kernel_rfl) _ (HE1.out _) ?_) | fail)
    generalize hW : World.alloc _ _ = W2
    obtain ⟨b5, hg5⟩ := blk1 hW
    clear hW
    have HB2 := hid (HB1.out.grow hg5).drew
    have HR2 := hid (HR1.out.grow hg5).drew
    have HS2 := hid b5.drew
    have HG2 : Hid (Grow w W2.drew) := hid ((HGw.out.trans hg5).trans (Grow.of_drew _))
    have HRB2 : Hid (RB W2.drew W2.drew.heap.size A3 nk ck so) := hid ((HRB.out.grow hg5).drew)
    have HNs : Hid (gr ≠ wr.heap.size) := hid (by have := HR1.out.lt; omega)
    clear b5 hg5 HRr HkR HE1 HB1 HR1 HG HGw HRB
    refine wp_region_chain [(0, true), (1, true), (2, true), (4, true), (5, true), (6, true), (3, false), (7, false), (8, true), (9, true), (10, true), (11, true), (12, true)] (by kernel_rfl) (by kernel_rfl) (by kernel_rfl) ?_
    generalize W2.drew = V0 at *
    generalize wr.heap.size = gs at *
    have q0 : ∀ W, Grow V0 W → _ := fun W hW => (HB2.out.grow hW).c11
    have q1 : ∀ W, Grow V0 W → _ := fun W hW => (HS2.out.grow hW).c10
    repeat (refine chain_take rfl (by rfl) ?_ (fun W hG => ?_) ?_; rotate_left; (obtain ⟨v0, v1, v2, v3, v4, v5, v6, v7, v8, v9, v10⟩ := q0 W hG; obtain ⟨u0, u1, u2, u3, u4, u5, u6, u7, u8, u9⟩ := q1 W hG; go_simp; rfl); simp only [Act.put, List.setIfInBounds_toArray, List.set_cons_zero, List.set_cons_succ])
    clear q0 q1
    refine chain_only rfl (by rfl) (fun K hK => ?_)
    go_simp
    refine (HByk.out A3 nk ck V0 HG2.out HRB2.out).mono ?_
    rintro e v1 ⟨A5, c5, rfl, ho, hg⟩
    refine hK _ _ hg ?_
    clear hK K
    have HB3 := hid (HB2.out.grow hg)
    have HR3 := hid (HR2.out.grow hg)
    have HS3 := hid (HS2.out.grow hg)
    have HG3 : Hid (Grow w v1) := hid (HG2.out.trans hg)
    have HO3 := hid ho.rb
    clear hg ho HB2 HR2 HS2 HG2 HRB2 HByk
    refine chain_only rfl (by rfl) (fun K hK => ?_)
    go_simp
    refine (HAlk.out A5 _ c5 v1 HO3.out).mono ?_
    rintro e v2 ⟨A6, n6, c6, er, rfl, hz, hg⟩
    refine hK _ _ hg ?_
    clear hK K
    have HR4 := hid (HR3.out.grow hg)
    have HS4 := hid (HS3.out.grow hg)
    have HG4 : Hid (Grow w v2) := hid (HG3.out.trans hg)
    have HZ4 := hid hz
    clear hg hz HB3 HS3 HO3 HAlk
    repeat (refine chain_take rfl (by rfl) ?_ (fun W hG => ?_) ?_; rotate_left; (go_simp; rfl); simp only [Act.put, List.setIfInBounds_toArray, List.set_cons_zero, List.set_cons_succ])
    refine chain_done ?_
    obtain ⟨u0, u1, u2, u3, u4, u5, u6, u7, u8, u9⟩ := HS4.out.c10
    go_wp2_with (refine wpList_store_row rfl 46 (.tmp 2) (.tmp 30) rfl gr #[.int .i64 y6, .int .u64 (y7 : Nat), .int .u64 (y8 : Nat), .slice A3 nk ck] rfl rfl _ _ HR4.out (by kernel_rfl) rfl (by simp [Value.oneCell']) ?_)
    have HR6 := hid (HR4.out.set #[.int .i64 y6, .int .u64 (y7 : Nat), .int .u64 (y8 : Nat), .slice A3 nk ck])
    have HG6 := hid (HG4.out.set HNe.out.1 #[.int .i64 y6, .int .u64 (y7 : Nat), .int .u64 (y8 : Nat), .slice A3 nk ck])
    try simp only [Exit.inBlock, Exit.then]
    refine dyn_ret rfl rfl rfl HR6.out ?_
    refine ⟨A3, nk, ck, A6, n6, c6, by rw [HPl.out]; rfl, ?_, HG6.out⟩
    rw [HDE.out]
    exact (HZ4.out.other (HZ4.out.ne (.inl HR3.out.lt)) _).mono HG3.out.size
   ·have hK1 := hid (HOk'.out (decide_eq_false h2))
    have e0 : ((s.typ : Int) == 2) = false := by simp; omega
    have HG3 : Hid (∀ o, Grow W0 (wr.alloc o)) := hid fun o => HG.out.trans (Grow.of_alloc _ _)
    clear HHk HOk' h2 HByk HAlk
    generalize s.pl.own = so at *
    generalize s.typ = y0 at *
    generalize s.flags = y1 at *
    generalize s.vaddr = y2 at *
    generalize s.paddr = y3 at *
    generalize s.memsz = y4 at *
    generalize s.align = y5 at *
    generalize s.pl.inn = y6 at *
    generalize s.pl.off = y7 at *
    generalize s.pl.size = y8 at *
    go_wp2_with (refine wpList_load_zs HRr.out HkR.out rfl 48 (.tmp 13) rfl rfl _ Try.underlying48 rfl (by kernel_rfl) _ (HE1.out _) ?_)
    go_roundw
    case rel => exact ⟨k + 1, by omega, by go_num, hK1.out, HG3.out _⟩
    case measure => simp [intOf]; omega
  ·obtain ⟨hDP, hDE⟩ := HE.out k (by rw [← HL.out]; omega) HKF.out
   subst hDP
   subst hDE
   go_wp2_with (refine wpList_store_row rfl 46 (.tmp 2) (.tmp 33) rfl gr #[.int .i64 (-1), .int .u64 0, .int .u64 0, .slice none 0 0] rfl rfl _ _ HR1.out (by kernel_rfl) rfl (by simp [Value.oneCell']) ?_)
   try simp only [Exit.inBlock, Exit.then]
   refine dyn_ret rfl rfl rfl (HR1.out.set #[.int .i64 (-1), .int .u64 0, .int .u64 0, .slice none 0 0]) ?_
   exact ⟨none, 0, 0, none, 0, 0, rfl, ZO.nil, HGw.out.set HNe.out.1 _⟩
end Go.Proofs.Ytfpihkbpelbcbaa
