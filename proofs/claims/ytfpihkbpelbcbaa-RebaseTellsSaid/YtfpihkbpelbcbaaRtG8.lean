/-
  Several texts in one: The contracts of slices.
-/
import Derived.Test.YtfpihkbpelbcbaaRtG6
import Derived.Test.YtfpihkbpelbcbaaRtG5
import Derived.Test.YtfpihkbpelbcbaaRtG7
namespace Go.Proofs.Ytfpihkbpelbcbaa
open Go.Lib (hid)
open Go.RowKit
set_option maxRecDepth 100000
set_option linter.unusedVariables false
theorem GH.of {α : Type} {K : RK α} {w w' : World} {B : Nat} {e : TypeId} {A : Option Addr} {k c : Nat} {L : List α} {R : List (Array Value)} (h : ZO w' B e K.z A k c R) (hl : R.length = L.length) (hr : ∀ j (h : j < R.length) (h' : j < L.length), RR K w B R[j] L[j]) (hb : Below B w w') : ∃ S, GH K w' B e A k c L S 0 := by
 have key : ∀ j, ∃ s : Sl, ∀ (h : j < R.length) (h' : j < L.length), R[j] = K.cs L[j] (sv s) ∧ RB w B s.1 s.2.1 s.2.2 (K.by_ L[j]) := fun j => by
  by_cases hj : j < L.length
  ·obtain ⟨A1, n1, c1, e1, h1⟩ := hr j (by rw [hl]; exact hj) hj
   exact ⟨(A1, n1, c1), fun _ _ => ⟨e1, h1⟩⟩
  ·exact ⟨(none, 0, 0), fun _ h' => absurd h' hj⟩
 refine ⟨fun j => (key j).choose, ?_, fun j hj h1 => absurd h1 (by omega), fun j hj _ => ((key j).choose_spec (by rw [hl]; exact hj) hj).2.belowAt hb (Nat.le_refl _)⟩
 have e1 : rowsOf K L (fun j => (key j).choose) = R := List.ext_getElem (by rw [rowsOf_len, hl]) fun j h1 h2 => by
  have hj : j < L.length := by rw [← hl]; exact h2
  rw [rowsOf_at h1 hj]
  exact ((key j).choose_spec h2 hj).1.symm
 rw [e1]
 exact h
set_option maxHeartbeats 1000000 in
theorem cloneSegsH_any (A : Option Addr) (n c : Nat) (L : List Sg) (B : Nat) (w : World) (h : ZR sgK w B A n c L) (hB : B ≤ w.heap.size) (hn : n ≤ 65536) :
  Calls Try.prog 39 #[.slice A n c] w fun e w' => ∃ A2 c2 S, e = .returned (.slice A2 n c2) ∧ GH sgK w' B 48 A2 n c2 L S 0 ∧ Grow w w' := by
 rcases A with _ | a
 ·have hl : n = 0 := by
   rcases Nat.eq_zero_or_pos n with h0 | h0
   ·exact h0
   ·obtain ⟨_, _, e, _⟩ := h.pos h0
    cases e
  subst hl
  have e2 : L = [] := List.eq_nil_of_length_eq_zero h.len.symm
  subst e2
  clear h
  have heq : ∀ w, (binOp .eql 29 (.slice none 0 c) (.slice none 0 0)).run Try.prog w = .ok (.bool true) w := fun w => by rfl
  go_enter Try.func39, Try.ntmps39
  go_wp2
  go_ret
  exact ⟨none, 0, fun _ => (none, 0, 0), rfl, ⟨ZO.nil, fun j h => absurd h (by simp), fun j h => absurd h (by simp)⟩, Grow.refl _⟩
 ·obtain ⟨R, h1, h2, h3⟩ := h
  have heq : ∀ w, (binOp .eql 29 (.slice (some a) n c) (.slice none 0 0)).run Try.prog w = .ok (.bool false) w := fun w => by rfl
  have hc := h1.cap
  have hm := h1.max
  unfold maxLen at hm
  have HO := hid (ZO.room w w.heap.size 48 0 10 #[] (Nat.zero_le _) (Nat.le_refl _) (by simp))
  have HG1 := hid (Grow.of_alloc w (.cells #[] 48))
  have HR := hid (h1.belowAt (Grow.of_alloc w (.cells #[] 48)) hB)
  have HC : Hid (∀ r ∈ R, r.all (·.oneCell') = true) := hid fun r hr => by
   obtain ⟨j, hj, rfl⟩ := List.getElem_of_mem hr
   obtain ⟨A1, n1, c1, e1, _⟩ := h3 j hj (by omega)
   rw [e1]
   simp [sgK, sgC, Value.oneCell']
  have H3 := hid h3
  have HB := hid hB
  clear h1 h3 hB
  go_enter Try.func39, Try.ntmps39
  go_wp2_with (at_builtin; refine wpList_appendZs (w.alloc (.cells #[] 48)) rfl (.tmp 5) (.tmp 6) 29 rfl w.heap.size 48 (.agg #[.int .u32 0, .int .u32 0, .int .u64 0, .int .u64 0, .int .u64 0, .int .u64 0, .int .i64 0, .int .u64 0, .int .u64 0, .slice none 0 0]) 10 88 Try.underlying29 (by kernel_rfl) rfl (by omega) _ 0 0 [] rfl HO.out B a n c R rfl HR.out HC.out (by unfold maxLen; omega) (by omega) HG1.out.size (by simp) ?_; intro A5 c5 w9 ho9 hb9; refine Hid.out ?_)
  have HO9 := hid ho9
  have HB9 : Hid (Grow w w9) := HG1.out.trans' hb9
  clear ho9 hb9 HO HR HG1
  refine hid ?_
  go_wp2
  go_ret
  have h9 := HO9.out
  rw [Nat.zero_add, List.nil_append] at h9
  obtain ⟨S, hS⟩ := GH.of (h9.mono HB.out) h2 H3.out (HB9.out.mono HB.out)
  exact ⟨A5, c5, S, rfl, hS, HB9.out⟩
set_option maxHeartbeats 1000000 in
theorem cloneSecsH_any (A : Option Addr) (n c : Nat) (L : List Se) (B : Nat) (w : World) (h : ZR seK w B A n c L) (hB : B ≤ w.heap.size) (hn : n ≤ 65536) :
  Calls Try.prog 40 #[.slice A n c] w fun e w' => ∃ A2 c2 S, e = .returned (.slice A2 n c2) ∧ GH seK w' B 50 A2 n c2 L S 0 ∧ Grow w w' := by
 rcases A with _ | a
 ·have hl : n = 0 := by
   rcases Nat.eq_zero_or_pos n with h0 | h0
   ·exact h0
   ·obtain ⟨_, _, e, _⟩ := h.pos h0
    cases e
  subst hl
  have e2 : L = [] := List.eq_nil_of_length_eq_zero h.len.symm
  subst e2
  clear h
  have heq : ∀ w, (binOp .eql 30 (.slice none 0 c) (.slice none 0 0)).run Try.prog w = .ok (.bool true) w := fun w => by rfl
  go_enter Try.func40, Try.ntmps40
  go_wp2
  go_ret
  exact ⟨none, 0, fun _ => (none, 0, 0), rfl, ⟨ZO.nil, fun j h => absurd h (by simp), fun j h => absurd h (by simp)⟩, Grow.refl _⟩
 ·obtain ⟨R, h1, h2, h3⟩ := h
  have heq : ∀ w, (binOp .eql 30 (.slice (some a) n c) (.slice none 0 0)).run Try.prog w = .ok (.bool false) w := fun w => by rfl
  have hc := h1.cap
  have hm := h1.max
  unfold maxLen at hm
  have HO := hid (ZO.room w w.heap.size 50 0 13 #[] (Nat.zero_le _) (Nat.le_refl _) (by simp))
  have HG1 := hid (Grow.of_alloc w (.cells #[] 50))
  have HR := hid (h1.belowAt (Grow.of_alloc w (.cells #[] 50)) hB)
  have HC : Hid (∀ r ∈ R, r.all (·.oneCell') = true) := hid fun r hr => by
   obtain ⟨j, hj, rfl⟩ := List.getElem_of_mem hr
   obtain ⟨A1, n1, c1, e1, _⟩ := h3 j hj (by omega)
   rw [e1]
   simp [seK, seC, Value.oneCell']
  have H3 := hid h3
  have HB := hid hB
  clear h1 h3 hB
  go_enter Try.func40, Try.ntmps40
  go_wp2_with (at_builtin; refine wpList_appendZs (w.alloc (.cells #[] 50)) rfl (.tmp 5) (.tmp 6) 30 rfl w.heap.size 50 (.agg #[.int .u32 0, .int .u32 0, .int .u64 0, .int .u64 0, .int .u64 0, .int .u32 0, .int .u32 0, .int .u64 0, .int .u64 0, .int .i64 0, .int .u64 0, .int .u64 0, .slice none 0 0]) 13 104 Try.underlying30 (by kernel_rfl) rfl (by omega) _ 0 0 [] rfl HO.out B a n c R rfl HR.out HC.out (by unfold maxLen; omega) (by omega) HG1.out.size (by simp) ?_; intro A5 c5 w9 ho9 hb9; refine Hid.out ?_)
  have HO9 := hid ho9
  have HB9 : Hid (Grow w w9) := HG1.out.trans' hb9
  clear ho9 hb9 HO HR HG1
  refine hid ?_
  go_wp2
  go_ret
  have h9 := HO9.out
  rw [Nat.zero_add, List.nil_append] at h9
  obtain ⟨S, hS⟩ := GH.of (h9.mono HB.out) h2 H3.out (HB9.out.mono HB.out)
  exact ⟨A5, c5, S, rfl, hS, HB9.out⟩
structure CI (w W : World) (gm gr : Nat) (mc zc : Array Value) (n1 n2 : Nat) (A3 : Option Addr) (c3 : Nat) (A4 : Option Addr) (c4 : Nat) (L1 : List Sg) (L2 : List Se) (S1 S2 : Nat → Sl) (q1 q2 : Nat) : Prop where
 b : Blk W gm 32 mc
 r : Blk W gr 32 zc
 s1 : GH sgK W w.heap.size 48 A3 n1 c3 L1 S1 q1
 s2 : GH seK W w.heap.size 50 A4 n2 c4 L2 S2 q2
 p1 : Sep S1 q1
 p2 : Sep S2 q2
 p3 : ∀ i g, i < q1 → own (S1 i).1 = some g → Off S2 q2 g
 gw : Grow w W
section
variable {w W W' : World} {gm gr : Nat} {mc zc : Array Value} {n1 n2 : Nat} {A3 : Option Addr} {c3 : Nat} {A4 : Option Addr} {c4 : Nat} {L1 : List Sg} {L2 : List Se} {S1 S2 : Nat → Sl} {q1 q2 : Nat}
theorem CI.grow (h : CI w W gm gr mc zc n1 n2 A3 c3 A4 c4 L1 L2 S1 S2 q1 q2) (hg : Grow W W') : CI w W' gm gr mc zc n1 n2 A3 c3 A4 c4 L1 L2 S1 S2 q1 q2 :=
 ⟨h.b.grow hg, h.r.grow hg, h.s1.keep hg h.gw.size, h.s2.keep hg h.gw.size, h.p1, h.p2, h.p3, h.gw.trans hg⟩
theorem GH.offNew {α : Type} {K : RK α} {w : World} {B : Nat} {e : TypeId} {A : Option Addr} {k c : Nat} {L : List α} {S : Nat → Sl} {q g : Nat} (h : GH K w B e A k c L S q) (hq : q ≤ L.length) (hg : w.heap.size ≤ g) : Off S q g := fun i hi he => by
 have := ((h.own i (by omega) hi).from_ he).2
 omega
theorem GH.offKind {α : Type} {K : RK α} {w : World} {B : Nat} {e t : TypeId} {A : Option Addr} {k c : Nat} {L : List α} {S : Nat → Sl} {q g : Nat} {cs : Array Value} (h : GH K w B e A k c L S q) (hq : q ≤ L.length) (hb : Blk w g t cs) (hu : 5 ≠ t) : Off S q g := fun i hi he => by
 rcases (h.own i (by omega) hi).2 with ⟨hv, _⟩ | ⟨g', cap, cur, hv, _, hh, _⟩
 ·injection hv with e1 _ _
  rw [e1] at he
  cases he
 ·injection hv with e1 _ _
  rw [e1] at he
  have e3 : g' = g := Option.some.inj he
  subst e3
  unfold Blk at hb
  rw [hb] at hh
  injection hh with hh
  injection hh with _ hh
  exact hu hh.symm
theorem CI.seg {g3 i : Nat} {cur : Array Value} (h : CI w W gm gr mc zc n1 n2 (some ⟨g3, 0, none⟩) c3 A4 c4 L1 L2 S1 S2 i 0) (hb : Blk W g3 48 cur) (hB : w.heap.size ≤ g3) (hi : i < L1.length) {A5 : Option Addr} {n5 c5 : Nat} (hold : ∀ g, own A5 = some g → Off S1 i g) (ho : OB W w.heap.size 5 A5 n5 c5 L1[i].pl.own) :
  CI w (W.setCell ⟨g3, i * 10 + 9, none⟩ (.slice A5 n5 c5)) gm gr mc zc n1 n2 (some ⟨g3, 0, none⟩) c3 A4 c4 L1 L2 (setS S1 i (A5, n5, c5)) S2 (i + 1) 0 := by
 have e1 : L1.set i L1[i] = L1 := List.set_getElem_self ..
 have h1 := h.s1.cell (i := i) (p := 9) (v := .slice A5 n5 c5) (a := L1[i]) (s := (A5, n5, c5)) (q' := i + 1) hb (by decide) hB h.gw.size hi (by decide) rfl (Nat.le_succ _) (fun j a b => by omega) (fun _ => ho) (fun a => absurd a (by omega))
 rw [e1] at h1
 exact ⟨h.b.cellset (h.b.apart hb (by decide)) _, h.r.cellset (h.r.apart hb (by decide)) _, h1,
  h.s2.past (grown_set' _ _ _) (by
   intro he
   rcases h.s2.row.kinds h.s1.row (by decide) with h2 | h2
   ·rw [h2] at he; cases he
   ·exact h2 he) (Off.zero _ _) hB h.gw.size,
  h.p1.step hold, Sep.zero _, fun _ _ _ _ => Off.zero _ _, h.gw.cellset hB _ _⟩
theorem CI.sec {g4 i : Nat} {cur : Array Value} (h : CI w W gm gr mc zc n1 n2 A3 c3 (some ⟨g4, 0, none⟩) c4 L1 L2 S1 S2 n1 i) (hn : n1 ≤ L1.length) (hb : Blk W g4 50 cur) (hB : w.heap.size ≤ g4) (hi : i < L2.length) {A5 : Option Addr} {n5 c5 : Nat} (hold : ∀ g, own A5 = some g → Off S2 i g ∧ Off S1 n1 g) (ho : OB W w.heap.size 5 A5 n5 c5 L2[i].pl.own) :
  CI w (W.setCell ⟨g4, i * 13 + 12, none⟩ (.slice A5 n5 c5)) gm gr mc zc n1 n2 A3 c3 (some ⟨g4, 0, none⟩) c4 L1 L2 S1 (setS S2 i (A5, n5, c5)) n1 (i + 1) := by
 have e1 : L2.set i L2[i] = L2 := List.set_getElem_self ..
 have h1 := h.s2.cell (i := i) (p := 12) (v := .slice A5 n5 c5) (a := L2[i]) (s := (A5, n5, c5)) (q' := i + 1) hb (by decide) hB h.gw.size hi (by decide) rfl (Nat.le_succ _) (fun j a b => by omega) (fun _ => ho) (fun a => absurd a (by omega))
 rw [e1] at h1
 exact ⟨h.b.cellset (h.b.apart hb (by decide)) _, h.r.cellset (h.r.apart hb (by decide)) _,
  h.s1.past (grown_set' _ _ _) (by
   intro he
   rcases h.s1.row.kinds h.s2.row (by decide) with h2 | h2
   ·rw [h2] at he; cases he
   ·exact h2 he) (h.s1.offKind hn hb (by decide)) hB h.gw.size, h1,
  h.p1, h.p2.step fun g hg => (hold g hg).1, fun j g hj hg => (h.p3 j g hj hg).step fun he => (hold g he).2 j hj hg, h.gw.cellset hB _ _⟩
end
set_option maxHeartbeats 8000000 in
theorem rbClone_any (m : Md) (A1 A2 : Option Addr) (n1 c1 n2 c2 : Nat) (w : World) (g1 : ZR sgK w w.heap.size A1 n1 c1 m.segs) (g2 : ZR seK w w.heap.size A2 n2 c2 m.secs) (hn1 : n1 ≤ 65536) (hn2 : n2 ≤ 65536)
  (hs1 : ∀ s ∈ m.segs, s.pl.own.length ≤ 140737488355328) (hs2 : ∀ s ∈ m.secs, s.pl.own.length ≤ 140737488355328) :
  Calls Try.prog 17 #[.agg (mdC m (.slice A1 n1 c1) (.slice A2 n2 c2))] w fun e w' => ∃ A3 c3 A4 c4 S1 S2, e = .returned (.agg (mdC m (.slice A3 n1 c3) (.slice A4 n2 c4))) ∧ GH sgK w' w.heap.size 48 A3 n1 c3 m.segs S1 n1 ∧ GH seK w' w.heap.size 50 A4 n2 c4 m.secs S2 n2 ∧ Sep S1 n1 ∧ (∀ i g, i < n1 → own (S1 i).1 = some g → Off S2 n2 g) ∧ Grow w w' := by
 obtain ⟨x0, x1, x2, x3, x4, x5, x6, x7, x10, hC⟩ : ∃ x0 x1 x2 x3 x4 x5 x6 x7 x10 : Value, (∀ s t, mdC m s t = #[x0, x1, x2, x3, x4, x5, x6, x7, s, t, x10]) ∧ (x0.oneCell' = true ∧ x1.oneCell' = true ∧ x2.oneCell' = true ∧ x3.oneCell' = true ∧ x4.oneCell' = true ∧ x5.oneCell' = true ∧ x6.oneCell' = true ∧ x7.oneCell' = true ∧ x10.oneCell' = true) := ⟨_, _, _, _, _, _, _, _, _, fun _ _ => rfl, by simp [Value.oneCell']⟩
 obtain ⟨hC, hO⟩ := hC
 have HOne := hid hO
 have HC1 := hid (fun W (hW : Grow w W) => cloneSegsH_any A1 n1 c1 m.segs w.heap.size W (g1.belowAt hW (Nat.le_refl _)) hW.size hn1)
 have HC2 := hid (fun W (hW : Grow w W) => cloneSecsH_any A2 n2 c2 m.secs w.heap.size W (g2.belowAt hW (Nat.le_refl _)) hW.size hn2)
 have HL1 := hid g1.len
 have HL2 := hid g2.len
 have HS1 := hid hs1
 have HS2 := hid hs2
 simp only [hC]
 clear hC hO g1 g2 hs1 hs2
 generalize m.segs = L1 at *
 generalize m.secs = L2 at *
 go_enter Try.func17, Try.ntmps17
 go_wp2_with fail
 generalize hW : World.alloc _ _ = W0
 obtain ⟨b1, b2, hg0⟩ := blk2 hW
 clear hW
 obtain ⟨gm, hgm⟩ : ∃ g, g = w.heap.size := ⟨_, rfl⟩
 rw [← hgm] at b1 b2 ⊢
 have HB1 := hid b1.drew
 have HX1 := hid b2.drew
 have HG1 : Hid (Grow w W0.drew) := hid (hg0.trans (Grow.of_drew _))
 have HGM : Hid (w.heap.size ≤ gm ∧ w.heap.size ≤ gm + 1 ∧ gm ≠ gm + 1) := hid (by omega)
 clear b1 b2 hg0 hgm
 generalize gm + 1 = gr at HX1 HGM ⊢
 refine wp_region_last (leap_keepC gm 9) [(0, true), (3, true), (4, true), (1, false), (2, false), (6, true), (5, false), (7, false), (8, true)] 9 (by kernel_rfl) (by kernel_rfl) (by kernel_rfl) ?_
 generalize W0.drew = v0 at HB1 HX1 HG1 ⊢
 have q9 : ∀ W, KeepC gm 9 v0 W → W.cell? ⟨gm, 9, none⟩ = some (.slice A2 n2 c2) := fun W hW => hW.2.trans (HB1.out.at 9)
 repeat ((first | (refine chain_take rfl (by rfl) ?_ (fun W hG => ?_) ?_; rotate_left; (go_simp; rfl)) | refine chain_skip rfl (by rfl) ?_); simp only [Act.put, List.setIfInBounds_toArray, List.set_cons_zero, List.set_cons_succ])
 clear q9
 have q8 : v0.cell? ⟨gm, 8, none⟩ = some (.slice A1 n1 c1) := HB1.out.at 8
 refine chain_only rfl (by rfl) (fun K hK => ?_)
 go_simp
 refine hK _ _ ((leap_keepC gm 9).refl _) ?_
 clear hK K q8
 refine chain_only rfl (by rfl) (fun K hK => ?_)
 go_simp
 refine (HC1.out _ HG1.out).mono ?_
 rintro e v1 ⟨A3, c3, S1, rfl, hgm1, hg⟩
 refine hK _ _ (KeepC.of_grow hg HB1.out.lt) ?_
 clear hK K
 have HB2 := hid (HB1.out.grow hg)
 have HX2 := hid (HX1.out.grow hg)
 have HG2 : Hid (Grow w v1) := hid (HG1.out.trans hg)
 have HM2 := hid hgm1
 clear hgm1 hg HB1 HX1 HG1 HC1
 repeat ((first | (refine chain_take rfl (by rfl) ?_ (fun W hG => ?_) ?_; rotate_left; (go_simp; rfl)) | refine chain_skip rfl (by rfl) ?_); simp only [Act.put, List.setIfInBounds_toArray, List.set_cons_zero, List.set_cons_succ])
 refine chain_only rfl (by rfl) (fun K hK => ?_)
 go_simp
 refine (HC2.out _ HG2.out).mono ?_
 rintro e v2 ⟨A4, c4, S2, rfl, hgm2, hg⟩
 refine hK _ _ (KeepC.of_grow hg HB2.out.lt) ?_
 clear hK K
 have HB3 := hid (HB2.out.grow hg)
 have HX3 := hid (HX2.out.grow hg)
 have HM3 := hid (HM2.out.keep hg HG2.out.size)
 have HN3 := hid hgm2
 have HG3 : Hid (Grow w v2) := hid (HG2.out.trans hg)
 clear hgm2 hg HB2 HX2 HG2 HC2 HM2
 repeat ((first | (refine chain_take rfl (by rfl) ?_ (fun W hG => ?_) ?_; rotate_left; (go_simp; rfl)) | refine chain_skip rfl (by rfl) ?_); simp only [Act.put, List.setIfInBounds_toArray, List.set_cons_zero, List.set_cons_succ])
 refine chain_only rfl (by rfl) (fun K hK => ?_)
 have c9 : v2.cell? ⟨gm, 8, none⟩ = some (.slice A1 n1 c1) := HB3.out.at 8
 have s9 := HB3.out.soft 8
 go_simp
 refine hK _ _ (KeepC.of_set (by omega) _) ?_
 clear hK K c9 s9
 have e9 := setCell_eq_setRow v2 gm 8 _ 32 (0, 0) (.slice A3 n1 c3) HB3.out
 have hgr : v2.grownBy (v2.setCell ⟨gm, 8, none⟩ (.slice A3 n1 c3)) (some gm) := grown_set' _ _ _
 have ho1 : own A3 ≠ some gm := fun he => by
  have hb := HB3.out
  rcases HM3.out.row.1.2 with ⟨hv, _⟩ | ⟨g', cap, cur, hv, _, hh, _⟩
  ·injection hv with e1 _ _; subst e1; cases he
  ·injection hv with e1 _ _
   subst e1
   have e3 : g' = gm := Option.some.inj he
   subst e3
   unfold Blk at hb
   rw [hb] at hh
   injection hh with hh
   injection hh with _ hh
   exact absurd hh (by decide)
 have ho2 : own A4 ≠ some gm := fun he => by
  have hb := HB3.out
  rcases HN3.out.row.1.2 with ⟨hv, _⟩ | ⟨g', cap, cur, hv, _, hh, _⟩
  ·injection hv with e1 _ _; subst e1; cases he
  ·injection hv with e1 _ _
   subst e1
   have e3 : g' = gm := Option.some.inj he
   subst e3
   unfold Blk at hb
   rw [hb] at hh
   injection hh with hh
   injection hh with _ hh
   exact absurd hh (by decide)
 have HOA := hid ho1
 have HOB := hid ho2
 have HM4 := hid (HM3.out.past hgr ho1 (Off.zero _ _) HGM.out.1 HG3.out.size)
 have HN4 := hid (HN3.out.past hgr ho2 (Off.zero _ _) HGM.out.1 HG3.out.size)
 have HX4 : Hid (Blk (v2.setCell ⟨gm, 8, none⟩ (.slice A3 n1 c3)) gr 32 _) := hid (HX3.out.cellset (a := ⟨gm, 8, none⟩) (Ne.symm HGM.out.2.2) (.slice A3 n1 c3))
 have HB4 : Hid (Blk (v2.setCell ⟨gm, 8, none⟩ (.slice A3 n1 c3)) gm 32 #[x0, x1, x2, x3, x4, x5, x6, x7, .slice A3 n1 c3, .slice A2 n2 c2, x10]) := hid (by rw [e9]; exact HB3.out.set _)
 have HG4 : Hid (Grow w (v2.setCell ⟨gm, 8, none⟩ (.slice A3 n1 c3))) := hid (HG3.out.cellset HGM.out.1 8 _)
 clear e9 hgr HB3 HX3 HM3 HN3 HG3 ho1 ho2
 generalize v2.setCell ⟨gm, 8, none⟩ (.slice A3 n1 c3) = v3 at HX4 HB4 HM4 HN4 HG4 ⊢
 repeat ((first | (refine chain_take rfl (by rfl) ?_ (fun W hG => ?_) ?_; rotate_left; (go_simp; rfl)) | refine chain_skip rfl (by rfl) ?_); simp only [Act.put, List.setIfInBounds_toArray, List.set_cons_zero, List.set_cons_succ])
 refine chain_done (last_op rfl (by rfl) (fun K hK => ?_))
 have c9 : v3.cell? ⟨gm, 9, none⟩ = some (.slice A2 n2 c2) := HB4.out.at 9
 have s9 := HB4.out.soft 9
 go_simp
 refine hK _ _ ?_
 clear hK K c9 s9
 have e9 := setCell_eq_setRow v3 gm 9 _ 32 (0, 0) (.slice A4 n2 c4) HB4.out
 have hgr : v3.grownBy (v3.setCell ⟨gm, 9, none⟩ (.slice A4 n2 c4)) (some gm) := grown_set' _ _ _
 have HI0 : Hid (CI w (v3.setCell ⟨gm, 9, none⟩ (.slice A4 n2 c4)) gm gr #[x0, x1, x2, x3, x4, x5, x6, x7, .slice A3 n1 c3, .slice A4 n2 c4, x10] _ n1 n2 A3 c3 A4 c4 L1 L2 S1 S2 0 0) := hid
  ⟨by rw [e9]; exact HB4.out.set _, HX4.out.cellset (a := ⟨gm, 9, none⟩) (Ne.symm HGM.out.2.2) (.slice A4 n2 c4),
   HM4.out.past hgr HOA.out (Off.zero _ _) HGM.out.1 HG4.out.size, HN4.out.past hgr HOB.out (Off.zero _ _) HGM.out.1 HG4.out.size, Sep.zero _, Sep.zero _, fun _ _ h => absurd h (by omega), HG4.out.cellset HGM.out.1 9 _⟩
 clear e9 hgr HB4 HX4 HM4 HN4 HG4 HOA HOB
 generalize v3.setCell ⟨gm, 9, none⟩ (.slice A4 n2 c4) = v4 at HI0 ⊢
 have m8 : v4.cell? ⟨gm, 8, none⟩ = some (.slice A3 n1 c3) := HI0.out.b.at 8
 go_wp2_with fail
 clear m8
 go_loopw [16] (fun i wr => ∃ (k : Nat) (S : Nat → Sl), k ≤ n1 ∧ i = .int .i64 k ∧ CI w wr gm gr #[x0, x1, x2, x3, x4, x5, x6, x7, .slice A3 n1 c3, .slice A4 n2 c4, x10] #[.bool false, .bool false, .int .u8 0, .int .u8 0, .int .u16 0, .int .u16 0, .int .u32 0, .int .u64 0, .slice none 0 0, .slice none 0 0, .int .i64 0] n1 n2 A3 c3 A4 c4 L1 L2 S S2 k 0) (fun i _ => n1 - (intOf i).toNat)
 case atStart => exact ⟨0, S1, Nat.zero_le _, rfl, HI0.out⟩
 case round =>
  obtain ⟨k, S, hk, rfl, hi⟩ := hrel
  have HI1 := hid hi
  clear hi HI0
  by_cases hlt : k < n1
  ·have hkl : k < L1.length := by rw [← HL1.out]; exact hlt
   have d1 : decide ((k : Int) < (n1 : Int)) = true := decide_eq_true (by omega)
   have w0 : (0 : Int) ≤ (k : Int) := by omega
   have w1' : (k : Int) < (n1 : Int) := by omega
   have hkr : k < (rowsOf sgK L1 S).length := by rw [rowsOf_len]; exact hkl
   obtain ⟨g3, cur, hA3, hb3, hB3, hle, hcell⟩ := HI1.out.s1.row.openAt hkr
   rw [rowsOf_at hkr hkl] at hcell
   have hby : RB wr wr.heap.size (S k).1 (S k).2.1 (S k).2.2 L1[k].pl.own := HI1.out.s1.rb HI1.out.gw.size hkl
   have hoff : ∀ W, Grow wr W → ∀ g, W.heap.size ≤ g → Off S k g := fun W hW g hg => (HI1.out.s1.keep hW HI1.out.gw.size).offNew (by omega) hg
   have HOff := hid hoff
   clear hoff
   subst hA3
   obtain ⟨B1, k1, e1⟩ : Sl := S k
   have h9 : cur[k * 10 + 9]? = some (sv (S k)) := hcell 9 (by decide)
   have HBl := hid (fun W (hW : Grow wr W) => hb3.grow hW)
   have HBg := hid hB3
   have hS1 := HS1.out L1[k] (List.getElem_mem hkl)
   have HKL := hid hkl
   have HCl : Hid (∀ W, Grow wr W → Calls Try.prog 41 #[sv (S k)] W (NewB L1[k].pl.own W)) := hid fun W hW => clone_any _ _ _ L1[k].pl.own wr.heap.size W (hby.belowAt hW (Nat.le_refl _)) hW.size (by rw [hby.len]; exact hS1)
   have ho9 : Hid (∀ W (hW : CI w W gm gr #[x0, x1, x2, x3, x4, x5, x6, x7, .slice (some ⟨g3, 0, none⟩) n1 c3, .slice A4 n2 c4, x10] #[.bool false, .bool false, .int .u8 0, .int .u8 0, .int .u16 0, .int .u16 0, .int .u32 0, .int .u64 0, .slice none 0 0, .slice none 0 0, .int .i64 0] n1 n2 (some ⟨g3, 0, none⟩) c3 A4 c4 L1 L2 S S2 k 0) (hb : Blk W g3 48 cur) A5 n5 c5, (∀ g, own A5 = some g → Off S k g) → OB W w.heap.size 5 A5 n5 c5 L1[k].pl.own → CI w (W.setCell ⟨g3, k * 10 + 9, none⟩ (.slice A5 n5 c5)) gm gr #[x0, x1, x2, x3, x4, x5, x6, x7, .slice (some ⟨g3, 0, none⟩) n1 c3, .slice A4 n2 c4, x10] #[.bool false, .bool false, .int .u8 0, .int .u8 0, .int .u16 0, .int .u16 0, .int .u32 0, .int .u64 0, .slice none 0 0, .slice none 0 0, .int .i64 0] n1 n2 (some ⟨g3, 0, none⟩) c3 A4 c4 L1 L2 (setS S k (A5, n5, c5)) S2 (k + 1) 0) :=
    hid fun W hW hb A5 n5 c5 hn ho => hW.seg hb HBg.out HKL.out hn ho
   unfold NewB at HCl
   obtain ⟨B1, k1, e1, hSk⟩ : ∃ B1 k1 e1, sv (S k) = .slice B1 k1 e1 := ⟨_, _, _, rfl⟩
   rw [hSk] at HCl h9
   have H9 := hid h9
   generalize hown : L1[k].pl.own = lo at HCl ho9
   clear hb3 hB3 hle hcell hby h9 hown hkl hkr hS1 hSk
   go_wp2_with fail
   refine wp_region_last (leap_kept (fun j => j = gm ∨ j = g3)) [(0, true), (1, true), (2, true), (3, true), (4, true), (5, true), (6, true), (7, true), (8, true), (9, true), (10, false), (11, true), (12, true), (13, true)] 14 (by kernel_rfl) (by kernel_rfl) (by kernel_rfl) ?_
   have HI2 := hid (HI1.out.grow (Grow.of_drew wr))
   have HB2 := hid (HBl.out _ (Grow.of_drew wr))
   have HC2 := hid (HCl.out _ (Grow.of_drew wr))
   have HOf2 := hid (HOff.out _ (Grow.of_drew wr))
   generalize wr.drew = v0 at HI2 HB2 HC2 HOf2 ⊢
   have q8 : ∀ W, Kept (fun j => j = gm ∨ j = g3) v0 W → W.cell? ⟨gm, 8, none⟩ = some (.slice (some ⟨g3, 0, none⟩) n1 c3) := fun W hW => (HI2.out.b.kept hW (.inl rfl)).at 8
   have q9 : ∀ W, Kept (fun j => j = gm ∨ j = g3) v0 W → W.cell? ⟨g3, k * 10 + 9, none⟩ = some (.slice B1 k1 e1) := fun W hW => ((HB2.out.kept hW (.inr rfl)).at _).trans H9.out
   repeat ((first | (refine chain_take rfl (by rfl) ?_ (fun W hG => ?_) ?_; rotate_left; (go_simp; rfl)) | refine chain_skip rfl (by rfl) ?_); simp only [Act.put, List.setIfInBounds_toArray, List.set_cons_zero, List.set_cons_succ])
   clear q8 q9
   refine chain_only rfl (by rfl) (fun K hK => ?_)
   go_simp
   refine HC2.out.mono ?_
   rintro e v1 ⟨A5, c5, rfl, ho, hg⟩
   refine hK _ _ (Kept.of_grow hg) ?_
   clear hK K
   have HI3 := hid (HI2.out.grow hg)
   have HB3 := hid (HB2.out.grow hg)
   have HNw : Hid (∀ g, own A5 = some g → Off S k g) := hid fun g he => HOf2.out g (ho.from_ he).1
   have HO3 := hid (ho.mono HI2.out.gw.size)
   clear ho hg HI2 HB2 HC2 HI1 HBl HCl HOff HOf2
   repeat ((first | (refine chain_take rfl (by rfl) ?_ (fun W hG => ?_) ?_; rotate_left; (go_simp; rfl)) | refine chain_skip rfl (by rfl) ?_); simp only [Act.put, List.setIfInBounds_toArray, List.set_cons_zero, List.set_cons_succ])
   refine chain_done (last_op rfl (by rfl) (fun K hK => ?_))
   have c9 : v1.cell? ⟨g3, k * 10 + 9, none⟩ = some (.slice B1 k1 e1) := (HB3.out.at _).trans H9.out
   have s9 := HB3.out.soft (k * 10 + 9)
   go_simp
   refine hK _ _ ?_
   clear hK K c9 s9
   have HI4 := hid (ho9.out v1 HI3.out HB3.out A5 lo.length c5 HNw.out HO3.out)
   clear HI3 HB3 HO3 ho9 HNw
   go_wp2
   go_roundw
   case rel => exact ⟨k + 1, _, by omega, by go_num, HI4.out⟩
   case measure => simp [intOf]; omega
  ·have e : k = n1 := by omega
   subst e
   have d1 : decide ((k : Int) < (k : Int)) = false := decide_eq_false (by omega)
   have m9 : wr.cell? ⟨gm, 9, none⟩ = some (.slice A4 n2 c4) := HI1.out.b.at 9
   go_wp2_with fail
   clear m9 d1 hlt
   generalize hwq : wr = wq at HI1 ⊢
   clear hwq
   go_loopw [37] (fun i wr => ∃ (j : Nat) (S' : Nat → Sl), j ≤ n2 ∧ i = .int .i64 j ∧ CI w wr gm gr #[x0, x1, x2, x3, x4, x5, x6, x7, .slice A3 k c3, .slice A4 n2 c4, x10] #[.bool false, .bool false, .int .u8 0, .int .u8 0, .int .u16 0, .int .u16 0, .int .u32 0, .int .u64 0, .slice none 0 0, .slice none 0 0, .int .i64 0] k n2 A3 c3 A4 c4 L1 L2 S S' k j) (fun i _ => n2 - (intOf i).toNat)
   case atStart => exact ⟨0, S2, Nat.zero_le _, rfl, HI1.out⟩
   case round =>
    obtain ⟨j, S', hj, rfl, hi⟩ := hrel
    have HI2 := hid hi
    clear hi HI1
    by_cases hlt : j < n2
    ·have hjl : j < L2.length := by rw [← HL2.out]; exact hlt
     have d1 : decide ((j : Int) < (n2 : Int)) = true := decide_eq_true (by omega)
     have w0 : (0 : Int) ≤ (j : Int) := by omega
     have w1' : (j : Int) < (n2 : Int) := by omega
     have hjr : j < (rowsOf seK L2 S').length := by rw [rowsOf_len]; exact hjl
     obtain ⟨g4, cur, hA4, hb4, hB4, hle, hcell⟩ := HI2.out.s2.row.openAt hjr
     rw [rowsOf_at hjr hjl] at hcell
     have hby : RB wr wr.heap.size (S' j).1 (S' j).2.1 (S' j).2.2 L2[j].pl.own := HI2.out.s2.rb HI2.out.gw.size hjl
     have hkL : k ≤ L1.length := by rw [← HL1.out]; exact Nat.le_refl _
     have hoff : ∀ W, Grow wr W → ∀ g, W.heap.size ≤ g → Off S' j g ∧ Off S k g := fun W hW g hg => ⟨(HI2.out.s2.keep hW HI2.out.gw.size).offNew (by omega) hg, (HI2.out.s1.keep hW HI2.out.gw.size).offNew hkL hg⟩
     have HOff := hid hoff
     clear hoff
     subst hA4
     have h9 : cur[j * 13 + 12]? = some (sv (S' j)) := hcell 12 (by decide)
     have HBl := hid (fun W (hW : Grow wr W) => hb4.grow hW)
     have HBg := hid hB4
     have hS1 := HS2.out L2[j] (List.getElem_mem hjl)
     have HKL := hid hjl
     have HKk := hid hkL
     have HCl : Hid (∀ W, Grow wr W → Calls Try.prog 41 #[sv (S' j)] W (NewB L2[j].pl.own W)) := hid fun W hW => clone_any _ _ _ L2[j].pl.own wr.heap.size W (hby.belowAt hW (Nat.le_refl _)) hW.size (by rw [hby.len]; exact hS1)
     have ho9 : Hid (∀ W (hW : CI w W gm gr #[x0, x1, x2, x3, x4, x5, x6, x7, .slice A3 k c3, .slice (some ⟨g4, 0, none⟩) n2 c4, x10] #[.bool false, .bool false, .int .u8 0, .int .u8 0, .int .u16 0, .int .u16 0, .int .u32 0, .int .u64 0, .slice none 0 0, .slice none 0 0, .int .i64 0] k n2 A3 c3 (some ⟨g4, 0, none⟩) c4 L1 L2 S S' k j) (hb : Blk W g4 50 cur) A5 n5 c5, (∀ g, own A5 = some g → Off S' j g ∧ Off S k g) → OB W w.heap.size 5 A5 n5 c5 L2[j].pl.own → CI w (W.setCell ⟨g4, j * 13 + 12, none⟩ (.slice A5 n5 c5)) gm gr #[x0, x1, x2, x3, x4, x5, x6, x7, .slice A3 k c3, .slice (some ⟨g4, 0, none⟩) n2 c4, x10] #[.bool false, .bool false, .int .u8 0, .int .u8 0, .int .u16 0, .int .u16 0, .int .u32 0, .int .u64 0, .slice none 0 0, .slice none 0 0, .int .i64 0] k n2 A3 c3 (some ⟨g4, 0, none⟩) c4 L1 L2 S (setS S' j (A5, n5, c5)) k (j + 1)) :=
      hid fun W hW hb A5 n5 c5 hn ho => hW.sec HKk.out hb HBg.out HKL.out hn ho
     unfold NewB at HCl
     obtain ⟨B1, k1, e1, hSk⟩ : ∃ B1 k1 e1, sv (S' j) = .slice B1 k1 e1 := ⟨_, _, _, rfl⟩
     rw [hSk] at HCl h9
     have H9 := hid h9
     generalize hown : L2[j].pl.own = lo at HCl ho9
     clear hb4 hB4 hle hcell hby h9 hown hjl hjr hS1 hSk hkL
     have m9 : wr.cell? ⟨gm, 9, none⟩ = some (.slice (some ⟨g4, 0, none⟩) n2 c4) := HI2.out.b.at 9
     go_wp2_with fail
     clear m9
     refine wp_region_last (leap_kept (fun j => j = gm ∨ j = g4)) [(0, true), (1, true), (2, true), (3, true), (4, true), (5, true), (6, true), (7, true), (8, true), (9, true), (10, false), (11, true), (12, true), (13, true)] 14 (by kernel_rfl) (by kernel_rfl) (by kernel_rfl) ?_
     have HI3 := hid (HI2.out.grow (Grow.of_drew wr))
     have HB3 := hid (HBl.out _ (Grow.of_drew wr))
     have HC3 := hid (HCl.out _ (Grow.of_drew wr))
     have HOf2 := hid (HOff.out _ (Grow.of_drew wr))
     generalize wr.drew = v0 at HI3 HB3 HC3 HOf2 ⊢
     have q8 : ∀ W, Kept (fun j => j = gm ∨ j = g4) v0 W → W.cell? ⟨gm, 9, none⟩ = some (.slice (some ⟨g4, 0, none⟩) n2 c4) := fun W hW => (HI3.out.b.kept hW (.inl rfl)).at 9
     have q9 : ∀ W, Kept (fun j => j = gm ∨ j = g4) v0 W → W.cell? ⟨g4, j * 13 + 12, none⟩ = some (.slice B1 k1 e1) := fun W hW => ((HB3.out.kept hW (.inr rfl)).at _).trans H9.out
     repeat ((first | (refine chain_take rfl (by rfl) ?_ (fun W hG => ?_) ?_; rotate_left; (go_simp; rfl)) | refine chain_skip rfl (by rfl) ?_); simp only [Act.put, List.setIfInBounds_toArray, List.set_cons_zero, List.set_cons_succ])
     clear q8 q9
     refine chain_only rfl (by rfl) (fun K hK => ?_)
     go_simp
     refine HC3.out.mono ?_
     rintro e v1 ⟨A5, c5, rfl, ho, hg⟩
     refine hK _ _ (Kept.of_grow hg) ?_
     clear hK K
     have HI4 := hid (HI3.out.grow hg)
     have HB4 := hid (HB3.out.grow hg)
     have HNw : Hid (∀ g, own A5 = some g → Off S' j g ∧ Off S k g) := hid fun g he => HOf2.out g (ho.from_ he).1
     have HO4 := hid (ho.mono HI3.out.gw.size)
     clear ho hg HI3 HB3 HC3 HI2 HBl HCl HOff HOf2
     repeat ((first | (refine chain_take rfl (by rfl) ?_ (fun W hG => ?_) ?_; rotate_left; (go_simp; rfl)) | refine chain_skip rfl (by rfl) ?_); simp only [Act.put, List.setIfInBounds_toArray, List.set_cons_zero, List.set_cons_succ])
     refine chain_done (last_op rfl (by rfl) (fun K hK => ?_))
     have c9 : v1.cell? ⟨g4, j * 13 + 12, none⟩ = some (.slice B1 k1 e1) := (HB4.out.at _).trans H9.out
     have s9 := HB4.out.soft (j * 13 + 12)
     go_simp
     refine hK _ _ ?_
     clear hK K c9 s9
     have HI5 := hid (ho9.out v1 HI4.out HB4.out A5 lo.length c5 HNw.out HO4.out)
     clear HI4 HB4 HO4 ho9 HNw
     go_wp2
     go_roundw
     case rel => exact ⟨j + 1, _, by omega, by go_num, HI5.out⟩
     case measure => simp [intOf]; omega
    ·have e : j = n2 := by omega
     subst e
     have d1 : decide ((j : Int) < (j : Int)) = false := decide_eq_false (by omega)
     obtain ⟨m0, m1, m2, m3, m4, m5, m6, m7, m8, m9, m10⟩ := HI2.out.b.c11
     obtain ⟨o0, o1, o2, o3, o4, o5, o6, o7, o10⟩ := HOne.out
     have hall : (#[x0, x1, x2, x3, x4, x5, x6, x7, .slice A3 k c3, .slice A4 j c4, x10] : Array Value).all (·.oneCell') = true := by
      simp only [List.all_toArray, List.all_cons, List.all_nil, o0, o1, o2, o3, o4, o5, o6, o7, o10, Bool.true_and, Bool.and_true]
      rfl
     have HAll := hid hall
     clear o0 o1 o2 o3 o4 o5 o6 o7 o10 hall
     go_wp2_with (refine wpList_store_row rfl 32 (.tmp 2) (.tmp 55) rfl gr _ rfl rfl _ _ HI2.out.r (by kernel_rfl) rfl HAll.out ?_)
     clear m0 m1 m2 m3 m4 m5 m6 m7 m8 m9 m10
     refine bodyPost_ret (results_cell_row rfl _ _ gr _ _ (0, 0) _ rfl (HI2.out.r.set _) Try.underlying32 rfl (by kernel_rfl)) rfl ?_
     have hgr : ∀ cs, wr.grownBy (wr.setRow gr cs) (some gr) := fun cs => ⟨rfl, rfl, rfl, by simp, fun j _ hj => setRow_other wr gr j cs (fun e => hj (by rw [e]))⟩
     have hL1 : k ≤ L1.length := by rw [← HL1.out]; exact Nat.le_refl _
     have hL2 : j ≤ L2.length := by rw [← HL2.out]; exact Nat.le_refl _
     have hn1 : own A3 ≠ some gr := fun he => by
      have hb := HI2.out.r
      rcases HI2.out.s1.row.1.2 with ⟨hv, _⟩ | ⟨g', cap, cur, hv, _, hh, _⟩
      ·injection hv with e1 _ _; subst e1; cases he
      ·injection hv with e1 _ _
       subst e1
       have e3 : g' = gr := Option.some.inj he
       subst e3
       unfold Blk at hb
       rw [hb] at hh
       injection hh with hh
       injection hh with _ hh
       exact absurd hh (by decide)
     have hn2 : own A4 ≠ some gr := fun he => by
      have hb := HI2.out.r
      rcases HI2.out.s2.row.1.2 with ⟨hv, _⟩ | ⟨g', cap, cur, hv, _, hh, _⟩
      ·injection hv with e1 _ _; subst e1; cases he
      ·injection hv with e1 _ _
       subst e1
       have e3 : g' = gr := Option.some.inj he
       subst e3
       unfold Blk at hb
       rw [hb] at hh
       injection hh with hh
       injection hh with _ hh
       exact absurd hh (by decide)
     exact ⟨A3, c3, A4, c4, S, S', rfl, HI2.out.s1.past (hgr _) hn1 (HI2.out.s1.offKind hL1 HI2.out.r (by decide)) HGM.out.2.1 HI2.out.gw.size, HI2.out.s2.past (hgr _) hn2 (HI2.out.s2.offKind hL2 HI2.out.r (by decide)) HGM.out.2.1 HI2.out.gw.size, HI2.out.p1, HI2.out.p3, HI2.out.gw.set HGM.out.2.1 _⟩
end Go.Proofs.Ytfpihkbpelbcbaa
