/-
  Several texts in one: A region that draws its order and whose last operation changes what the others read; The contract of strip; The document's example (up) of layer 18.
-/
import Derived.Test.YtfbimboemahhhaaSaG1
import Derived.Test.YtfbimboemahhhaaSaG4
import Derived.Test.YtfbimboemahhhaaSaG5
namespace Go.Proofs.Ytfbimboemahhhaa
open Go.Lib (hid)
open Go.RowKit
def waits (ops : Array Oper) : Nat → Nat → Nat → Bool
 | 0, _, _ => false
 | n + 1, z, i => ((ops[z]?).map fun o => o.after.any fun e => Region.binds .any e && (e.on == i || waits ops n e.on i)).getD false
def Closed (ops : Array Oper) (listed : Array Bool) : Prop := ∀ j o, ops[j]? = some o → listed.getD j false = true → ∀ e ∈ o.after, Region.binds .any e = true → listed.getD e.on false = true
theorem Closed.waits {ops : Array Oper} {listed : Array Bool} (h : Closed ops listed) {i : Nat} : ∀ n z, waits ops n z i = true → listed.getD z false = true → listed.getD i false = true
 | 0, _, hw, _ => by simp [Go.Proofs.Ytfbimboemahhhaa.waits] at hw
 | n + 1, z, hw, hz => by
  unfold Go.Proofs.Ytfbimboemahhhaa.waits at hw
  cases ho : ops[z]? with
  | none => simp [ho] at hw
  | some o =>
   simp only [ho, Option.map_some, Option.getD_some, Array.any_eq_true, Bool.and_eq_true, Bool.or_eq_true, beq_iff_eq] at hw
   obtain ⟨q, hq, hb, hi⟩ := hw
   have h1 := h z o ho hz _ (Array.getElem_mem hq) hb
   rcases hi with hi | hi
   ·rw [← hi]; exact h1
   ·exact h.waits n _ hi h1
theorem Closed.set {ops : Array Oper} {listed : Array Bool} (h : Closed ops listed) {j : Nat} (hj : j ∈ Region.ready .any ops listed) : Closed ops (listed.setIfInBounds j true) := fun k o ho hk e he hb => by
 by_cases hjk : j = k
 ·subst hjk
  obtain ⟨_, o', ho', hall⟩ := mem_ready.1 hj
  rw [ho] at ho'
  injection ho' with ho'
  subst ho'
  exact getD_set_true (hall e he hb)
 ·rw [getD_set_ne false hjk] at hk
  exact getD_set_true (h k o ho hk e he hb)
theorem getD_rep (n i : Nat) : (Array.replicate n false).getD i false = false := by
 rw [Array.getD_eq_getD_getElem?, Array.getElem?_replicate]
 split <;> rfl
theorem Closed.start (ops : Array Oper) : Closed ops (Array.replicate ops.size false) := fun k o _ hk => by rw [getD_rep] at hk; cases hk
def wpAnyZ (P : Program) (ops : Array Oper) (Q : Exit → Act → World → Prop) (S : World → Prop) (z : Nat) : Nat → Array Bool → Act → World → Prop
 | 0, listed, a, w => Region.ready .any ops listed = [] ∧ Q .normal a w
 | fuel + 1, listed, a, w => (Region.ready .any ops listed = [] → Q .normal a w) ∧
  ∀ i ∈ Region.ready .any ops listed, wpOp P ops Q i (fun a' w' => (i ≠ z → S w') ∧ wpAnyZ P ops Q S z fuel (listed.setIfInBounds i true) a' w') a w
section
variable {P : Program} {ops : Array Oper} {Q : Exit → Act → World → Prop} {S S' : World → Prop} {z : Nat} {Y : World → World → Prop} {R : Act → World → Prop}
theorem wpAny_of_Z : ∀ (fuel : Nat) (listed : Array Bool) (a : Act) (w : World), wpAnyZ P ops Q S z fuel listed a w → wpAny P .any ops Q fuel listed a w
 | 0, _, _, _, h => h
 | fuel + 1, _, _, _, h => ⟨h.1, fun i hi => wpOp_mono (fun a' w' h' => wpAny_of_Z fuel _ a' w' h'.2) (h.2 i hi)⟩
theorem wpAnyZ_weaken (hS : ∀ w, S' w → S w) : ∀ (fuel : Nat) (listed : Array Bool) (a : Act) (w : World), wpAnyZ P ops Q S' z fuel listed a w → wpAnyZ P ops Q S z fuel listed a w
 | 0, _, _, _, h => h
 | fuel + 1, _, _, _, h => ⟨h.1, fun i hi => wpOp_mono (fun a' w' h' => ⟨fun hz => hS w' (h'.1 hz), wpAnyZ_weaken hS fuel _ a' w' h'.2⟩) (h.2 i hi)⟩
theorem wpAnyZ_all {rs : List Nat} {fuel : Nat} {listed : Array Bool} {a : Act} {w : World} (hr : Region.ready .any ops listed = rs) (hne : rs ≠ [])
  (h : ∀ i ∈ rs, wpOp P ops Q i (fun a' w' => (i ≠ z → S w') ∧ wpAnyZ P ops Q S z fuel (listed.setIfInBounds i true) a' w') a w) : wpAnyZ P ops Q S z (fuel + 1) listed a w :=
 ⟨fun h0 => absurd (hr ▸ h0) hne, hr ▸ h⟩
theorem wpAnyZ_first {i : Nat} {oi : Oper} {v : Value} (hi : ops[i]? = some oi) (hsel : ∀ (j : Nat) (o : Oper) cs b, ops[j]? = some o → o.op ≠ .select cs b)
  (hQ : ∀ c a w, Q (.panic c) (a.put oi.dst v) w → Q (.panic c) a w) {n : Nat} (hz : waits ops n z i = true) :
  ∀ (fuel : Nat) (listed : Array Bool) (a : Act) (w : World), Closed ops listed →
   (∀ j oj, ops[j]? = some oj → j ≠ i → listed.getD j true = false → (∀ e ∈ oj.after, Region.binds .any e = true → e.on ≠ i) → oi.apart ops oj = true) →
   i ∈ Region.ready .any ops listed → YieldsIf P ops S oi v a → S w →
   wpAnyZ P ops Q S z fuel (listed.setIfInBounds i true) (a.put oi.dst v) w → wpAnyZ P ops Q S z (fuel + 1) listed a w := by
 intro fuel
 induction fuel with
 | zero =>
  intro listed a w _ _ hr hy hS H
  refine ⟨fun h => (by rw [h] at hr; cases hr), fun j hj => ?_⟩
  by_cases hji : j = i
  ·subst hji; exact hy.wpOp hi hS ⟨fun _ => hS, H⟩
  ·have := ready_mono hj hji
   rw [H.1] at this
   cases this
 | succ fuel ih =>
  intro listed a w hcl hfree hr hy hS H
  refine ⟨fun h => (by rw [h] at hr; cases hr), fun j hj => ?_⟩
  by_cases hji : j = i
  ·subst hji; exact hy.wpOp hi hS ⟨fun _ => hS, H⟩
  ·have hil : listed.getD i false = false := by
    have h0 := (mem_ready.1 hr).1
    rcases Nat.lt_or_ge i listed.size with h' | h'
    ·simp [h'] at h0 ⊢; exact h0
    ·simp [Array.getElem?_eq_none h']
   have hjz : j ≠ z := fun e => by
    subst e
    have h1 := (hcl.set hj).waits n j hz (by
     obtain ⟨h0, o, ho, _⟩ := mem_ready.1 hj
     rcases Nat.lt_or_ge j listed.size with h' | h'
     ·simp [h']
     ·simp [Array.getElem?_eq_none h'] at h0)
    rw [getD_set_ne false hji, hil] at h1
    cases h1
   have h1 := H.2 j (ready_mono hj hji)
   obtain ⟨hjun, oj, hoj, hall⟩ := mem_ready.1 hj
   have hnot : ∀ e ∈ oj.after, Region.binds .any e = true → e.on ≠ i := fun e he hb heq => by
    have h1 := hall e he hb
    rw [heq, hil] at h1
    cases h1
   have h2 := wpOp_putIf hoj (hfree j oj hoj hji hjun hnot) (fun cs b => hsel i oi cs b hi) (fun cs b => hsel j oj cs b hoj) hQ hy h1
   have hfree' : ∀ k ok, ops[k]? = some ok → k ≠ i → (listed.setIfInBounds j true).getD k true = false →
     (∀ e ∈ ok.after, Region.binds .any e = true → e.on ≠ i) → oi.apart ops ok = true := fun k ok hk hki hun hno => by
    refine hfree k ok hk hki ?_ hno
    by_cases hjk : j = k
    ·subst hjk; exact hjun
    ·rw [getD_set_ne true hjk] at hun; exact hun
   refine wpOp_mono (fun a' w' h3 => ⟨h3.2.1, ih (listed.setIfInBounds j true) a' w' (hcl.set hj) hfree' (ready_mono hr (Ne.symm hji)) h3.1 (h3.2.1 hjz) ?_⟩) h2
   rw [Array.setIfInBounds_comm _ _ hji]
   exact h3.2.2
attribute [local semireducible] wpChain
theorem wpChainZ_sound (hy : Leap Y) (hs : Region.noSelect ops = true) (hQ : ∀ c a w, ¬ Q (.panic c) a w) (n : Nat) : ∀ (c : Chain) (listed : Array Bool) (a : Act) (w : World), Closed ops listed →
  (∀ a w, R a w → wpAnyZ P ops Q (Y w) z n (Chain.after listed c) a w) →
  Chain.ok ops c listed = true → c.all (fun p => !p.2 || waits ops ops.size z p.1) = true → wpChain P ops Q Y R c a w → wpAnyZ P ops Q (Y w) z (n + c.length) listed a w
 | [], listed, a, w, _, hR, _, _, h => hR a w h
 | (i, true) :: r, listed, a, w, hcl, hR, hB, hW, h => by
  simp only [Chain.ok, Bool.and_eq_true] at hB
  simp only [List.all_cons, Bool.and_eq_true, Bool.not_true, Bool.false_or] at hW
  obtain ⟨o, ho, hh⟩ := h
  rw [List.length_cons, ← Nat.add_assoc]
  have hr : i ∈ Region.ready .any ops listed := by simpa using hB.1.2
  rcases hh with ⟨hw, v, hv, hr'⟩ | ⟨hw, hr'⟩
  ·exact wpAnyZ_first ho (Region.noSelect_spec hs) (fun c a w h => absurd h (hQ _ _ _)) hW.1 _ listed a w hcl (Region.free_spec ho hB.1.1) hr (.inl ⟨hw, hv⟩) (hy.refl w) (wpChainZ_sound hy hs hQ n r _ _ w (hcl.set hr) hR hB.2 hW.2 hr')
  ·exact wpAnyZ_first ho (Region.noSelect_spec hs) (fun c a w h => absurd h (hQ _ _ _)) hW.1 _ listed a w hcl (Region.free_spec ho hB.1.1) hr (.inr ⟨hw, rfl⟩) (hy.refl w) (wpChainZ_sound hy hs hQ n r _ _ w (hcl.set hr) hR hB.2 hW.2 hr')
 | (i, false) :: r, listed, a, w, hcl, hR, hB, hW, h => by
  simp only [Chain.ok, Bool.and_eq_true] at hB
  simp only [List.all_cons, Bool.and_eq_true] at hW
  rw [List.length_cons, ← Nat.add_assoc]
  have hr : Region.ready .any ops listed = [i] := by simpa using hB.1
  refine wpAnyZ_all (rs := [i]) hr (by simp) ?_
  intro k hk
  obtain rfl : k = i := by simpa using hk
  exact wpOp_mono (fun a' w' h' => ⟨fun _ => h'.1, wpAnyZ_weaken (fun W hW => hy.trans _ _ _ h'.1 hW) _ _ _ _ (wpChainZ_sound hy hs hQ n r _ a' w' (hcl.set (by rw [hr]; simp)) hR hB.2 hW.2 h'.2)⟩) h
theorem wp_region_last (hy : Leap Y) {id : Nat} {a : Act} {w : World} (c : Chain) (z : Nat) (hm : P.follows .mixedOrders = true) (hs : Region.noSelect ops = true)
  (hB : (Chain.ok ops c (Array.replicate ops.size false) && (Region.ready .any ops (Chain.after (Array.replicate ops.size false) c) == [z]) && (c.length + 1 == ops.size) &&
   (Region.ready .any ops ((Chain.after (Array.replicate ops.size false) c).setIfInBounds z true) == []) && c.all (fun p => !p.2 || waits ops ops.size z p.1)) = true)
  (h : wpChain P ops (NoPanic Q) Y (fun a w => wpOp P ops (NoPanic Q) z (fun a' w' => Q .normal a' w') a w) c a w.drew) : (Code.region id ops true).wp P Q a w := by
 simp only [Bool.and_eq_true] at hB
 obtain ⟨⟨⟨⟨b1, b2⟩, b3⟩, b4⟩, b5⟩ := hB
 have hl : c.length + 1 = ops.size := by simpa using b3
 refine wp_region_noPanic (wp_region_any hm (wpAny_of_Z (S := Y w.drew) (z := z) _ _ _ _ ?_))
 have := wpChainZ_sound (P := P) (ops := ops) (Q := NoPanic Q) (Y := Y) (z := z) (R := fun a w => wpOp P ops (NoPanic Q) z (fun a' w' => Q .normal a' w') a w) hy hs (fun _ _ _ h => h) 1 c (Array.replicate ops.size false) a w.drew (Closed.start ops)
  (fun a w h => by
   have hr : Region.ready .any ops (Chain.after (Array.replicate ops.size false) c) = [z] := by simpa using b2
   refine wpAnyZ_all (fuel := 0) (rs := [z]) hr (by simp) ?_
   intro k hk
   obtain rfl : k = z := by simpa using hk
   exact wpOp_mono (fun a' w' h' => ⟨fun e => absurd rfl e, by simpa using b4, h'⟩) h) b1 b5 h
 rw [Nat.add_comm, hl] at this
 exact this
theorem last_op {l rest : List Oper} {i : Nat} {a : Act} {w : World} {o : Oper} (hi : l.drop i = o :: rest) (hw : Region.wanted o (yielded l.toArray a.tmps) = true)
  (h : ∀ K : Act → World → Prop, (∀ a' w', R a' w' → K a' w') → o.wp P a w K Q) : wpOp P l.toArray Q i (fun a' w' => R a' w') a w := by
 unfold wpOp
 simp only [at_of_drop hi, hw, if_true]
 exact .inl (h _ fun a' w' h1 => h1)
end
set_option maxRecDepth 100000
set_option linter.unusedVariables false
set_option maxHeartbeats 8000000 in
theorem strip_any (m : Md) (ok : m.Ok) (A1 A2 : Option Addr) (n1 c1 n2 c2 : Nat) (w : World) (g1 : ZR sgK w w.heap.size A1 n1 c1 m.segs) (g2 : ZR seK w w.heap.size A2 n2 c2 m.secs) (hsm : m.strs.length ≤ 140737488355328) (hn1 : n1 ≤ 65536) (hn2 : n2 ≤ 65536)
  (hs1 : ∀ s ∈ m.segs, s.pl.own.length ≤ 140737488355328) (hs2 : ∀ s ∈ m.secs, s.pl.own.length ≤ 140737488355328) :
  Calls Try.prog 9 #[.agg (mdC m (.slice A1 n1 c1) (.slice A2 n2 c2))] w fun e w' => ∃ A3 c3 A4 c4, e = .returned (.agg (mdC m (.slice A3 n1 c3) (.slice A4 n2 c4))) ∧ ZR sgK w' w'.heap.size A3 n1 c3 m.segs ∧ ZR seK w' w'.heap.size A4 n2 c4 m.strip.secs ∧ Grow w w' := by
 obtain ⟨x0, x1, x2, x3, x4, x5, x6, x7, x10, hC⟩ : ∃ x0 x1 x2 x3 x4 x5 x6 x7 x10 : Value, (∀ s t, mdC m s t = #[x0, x1, x2, x3, x4, x5, x6, x7, s, t, x10]) ∧ (x0.oneCell' = true ∧ x1.oneCell' = true ∧ x2.oneCell' = true ∧ x3.oneCell' = true ∧ x4.oneCell' = true ∧ x5.oneCell' = true ∧ x6.oneCell' = true ∧ x7.oneCell' = true ∧ x10.oneCell' = true) := ⟨_, _, _, _, _, _, _, _, _, fun _ _ => rfl, by simp [Value.oneCell']⟩
 obtain ⟨hC, hO⟩ := hC
 have HOne := hid hO
 have HGo := hid (fun W (hW : Grow w W) => goes_any m ok A1 A2 n1 c1 n2 c2 W (g1.grow hW) (g2.grow hW) hsm hn2)
 have HC1 := hid (fun W (hW : Grow w W) => cloneSegs_any A1 n1 c1 m.segs w.heap.size W (g1.belowAt hW (Nat.le_refl _)) hW.size hn1)
 have HC2 := hid (fun W (hW : Grow w W) => cloneSecs_any A2 n2 c2 m.secs w.heap.size W (g2.belowAt hW (Nat.le_refl _)) hW.size hn2)
 have HL1 := hid g1.len
 have HL2 := hid g2.len
 have HS1 := hid hs1
 have HS2 := hid hs2
 have HK0 := hid m.cutTo_zero
 have HKn := hid (m.cutTo_all g2.len)
 have HKl := hid m.cutTo_len
 have HKa := hid (fun k (h : k < m.secs.length) h' => m.cutTo_at h h')
 have HKs : Hid (∀ k, k < m.secs.length → m.goes k = true → m.cutTo (k + 1) = (m.cutTo k).set k seX) := hid fun k h hg => by rw [m.cutTo_succ k, Md.left, if_pos hg]
 have HKf : Hid (∀ k, k < m.secs.length → m.goes k = false → m.cutTo (k + 1) = m.cutTo k) := hid fun k h hg => m.cut_same h hg
 rw [hC] at HGo ⊢
 simp only [hC]
 clear hC hO g1 g2 hsm hs1 hs2 ok
 generalize m.goes = Gg at *
 generalize m.strip.secs = Lx at *
 generalize m.cutTo = Ck at *
 generalize m.segs = L1 at *
 generalize m.secs = L2 at *
 go_enter Try.func9, Try.ntmps9
 go_wp2_with fail
 generalize hW : World.alloc _ _ = W0
 obtain ⟨b1, b2, hg0⟩ := blk2 hW
 clear hW
 obtain ⟨gm, hgm⟩ : ∃ g, g = w.heap.size := ⟨_, rfl⟩
 rw [← hgm] at b1 b2 ⊢
 have HB0 := hid b1
 have HX0 := hid b2
 have HG0 := hid hg0
 have HGM : Hid (w.heap.size ≤ gm ∧ w.heap.size ≤ gm + 1 ∧ gm ≠ gm + 1) := hid (by omega)
 clear b1 b2 hg0 hgm
 generalize gm + 1 = gr at HX0 HGM ⊢
 obtain ⟨v0, v1, v2, v3, v4, v5, v6, v7, v8, v9, v10⟩ := HB0.out.c11
 go_wp2_with fail
 clear v0 v1 v2 v3 v4 v5 v6 v7 v8 v9 v10
 refine (HGo.out _ HG0.out).mono ?_
 rintro e w1 ⟨gg, rfl, -, hr, hg⟩
 have HB1 := hid (HB0.out.grow hg).drew
 have HX1 := hid (HX0.out.grow hg).drew
 have HR1 := hid (World.rowIs.drew hr)
 have HG1 : Hid (Grow w w1.drew) := hid ((HG0.out.trans hg).trans (Grow.of_drew _))
 clear hr hg HB0 HX0 HG0 HGo
 go_wp2_with fail
 refine wp_region_last (leap_keepC gm 9) [(0, true), (3, true), (4, true), (1, false), (2, false), (6, true), (5, false), (7, false), (8, true)] 9 (by kernel_rfl) (by kernel_rfl) (by kernel_rfl) ?_
 generalize w1.drew = v0 at HB1 HX1 HR1 HG1 ⊢
 have q9 : ∀ W, KeepC gm 9 v0 W → W.cell? ⟨gm, 9, none⟩ = some (.slice A2 n2 c2) := fun W hW => hW.2.trans (HB1.out.at 9)
 repeat ((first | (refine chain_take rfl (by rfl) ?_ (fun W hG => ?_) ?_; rotate_left; (go_simp; rfl)) | refine chain_skip rfl (by rfl) ?_); simp only [Act.put, List.setIfInBounds_toArray, List.set_cons_zero, List.set_cons_succ])
 clear q9
 have q8 : v0.cell? ⟨gm, 8, none⟩ = some (.slice A1 n1 c1) := HB1.out.at 8
 refine chain_only rfl (by rfl) (fun K hK => ?_)
 go_simp
 refine hK _ _ ((leap_keepC gm 9).refl _) ?_
 clear hK K q8
 refine chain_only rfl (by rfl) (fun K hK => ?_)
 go_simp
 refine (HC1.out _ HG1.out).mono ?_
 rintro e v1 ⟨A3, c3, rfl, hgm1, hg⟩
 refine hK _ _ (KeepC.of_grow hg HB1.out.lt) ?_
 clear hK K
 have HB2 := hid (HB1.out.grow hg)
 have HX2 := hid (HX1.out.grow hg)
 have HR2 := hid (bools_grow HR1.out hg)
 have HG2 : Hid (Grow w v1) := hid (HG1.out.trans hg)
 have HM2 := hid hgm1
 clear hgm1 hg HB1 HX1 HR1 HG1 HC1
 repeat ((first | (refine chain_take rfl (by rfl) ?_ (fun W hG => ?_) ?_; rotate_left; (go_simp; rfl)) | refine chain_skip rfl (by rfl) ?_); simp only [Act.put, List.setIfInBounds_toArray, List.set_cons_zero, List.set_cons_succ])
 refine chain_only rfl (by rfl) (fun K hK => ?_)
 go_simp
 refine (HC2.out _ HG2.out).mono ?_
 rintro e v2 ⟨A4, c4, rfl, hgm2, hg⟩
 refine hK _ _ (KeepC.of_grow hg HB2.out.lt) ?_
 clear hK K
 have HB3 := hid (HB2.out.grow hg)
 have HX3 := hid (HX2.out.grow hg)
 have HR3 := hid (bools_grow HR2.out hg)
 have HM3 := hid (HM2.out.keep hg HG2.out.size)
 have HN3 := hid hgm2
 have HG3 : Hid (Grow w v2) := hid (HG2.out.trans hg)
 clear hgm2 hg HB2 HX2 HR2 HG2 HC2 HM2
 repeat ((first | (refine chain_take rfl (by rfl) ?_ (fun W hG => ?_) ?_; rotate_left; (go_simp; rfl)) | refine chain_skip rfl (by rfl) ?_); simp only [Act.put, List.setIfInBounds_toArray, List.set_cons_zero, List.set_cons_succ])
 refine chain_only rfl (by rfl) (fun K hK => ?_)
 have c9 : v2.cell? ⟨gm, 8, none⟩ = some (.slice A1 n1 c1) := HB3.out.at 8
 have s9 := HB3.out.soft 8
 go_simp
 refine hK _ _ (KeepC.of_set (by omega) _) ?_
 clear hK K c9 s9
 have e9 := setCell_eq_setRow v2 gm 8 _ 32 (0, 0) (.slice A3 n1 c3) HB3.out
 have hgr : v2.grownBy (v2.setCell ⟨gm, 8, none⟩ (.slice A3 n1 c3)) (some gm) := grown_set' _ _ _
 have HM4 := hid (HM3.out.past HB3.out (by decide) (by decide) hgr HGM.out.1 HG3.out.size)
 have HN4 := hid (HN3.out.past HB3.out (by decide) (by decide) hgr HGM.out.1 HG3.out.size)
 have HX4 : Hid (Blk (v2.setCell ⟨gm, 8, none⟩ (.slice A3 n1 c3)) gr 32 _) := hid (HX3.out.cellset (a := ⟨gm, 8, none⟩) (Ne.symm HGM.out.2.2) (.slice A3 n1 c3))
 have HB4 : Hid (Blk (v2.setCell ⟨gm, 8, none⟩ (.slice A3 n1 c3)) gm 32 #[x0, x1, x2, x3, x4, x5, x6, x7, .slice A3 n1 c3, .slice A2 n2 c2, x10]) := hid (by rw [e9]; exact HB3.out.set _)
 have HR4 : Hid ((v2.setCell ⟨gm, 8, none⟩ (.slice A3 n1 c3)).rowIs gg 4 n2 (bvl Gg)) := hid (by
  obtain ⟨gc, hgc⟩ := bools_blk HR3.out
  exact HR3.out.of_block (Deep.blk_setCell_other _ _ _ _ (hgc.apart HB3.out (by decide))))
 have HG4 : Hid (Grow w (v2.setCell ⟨gm, 8, none⟩ (.slice A3 n1 c3))) := hid (HG3.out.cellset HGM.out.1 8 _)
 clear e9 hgr HB3 HX3 HR3 HM3 HN3 HG3
 generalize v2.setCell ⟨gm, 8, none⟩ (.slice A3 n1 c3) = v3 at HX4 HB4 HR4 HM4 HN4 HG4 ⊢
 repeat ((first | (refine chain_take rfl (by rfl) ?_ (fun W hG => ?_) ?_; rotate_left; (go_simp; rfl)) | refine chain_skip rfl (by rfl) ?_); simp only [Act.put, List.setIfInBounds_toArray, List.set_cons_zero, List.set_cons_succ])
 refine chain_done (last_op rfl (by rfl) (fun K hK => ?_))
 have c9 : v3.cell? ⟨gm, 9, none⟩ = some (.slice A2 n2 c2) := HB4.out.at 9
 have s9 := HB4.out.soft 9
 go_simp
 refine hK _ _ ?_
 clear hK K c9 s9
 have e9 := setCell_eq_setRow v3 gm 9 _ 32 (0, 0) (.slice A4 n2 c4) HB4.out
 have hgr : v3.grownBy (v3.setCell ⟨gm, 9, none⟩ (.slice A4 n2 c4)) (some gm) := grown_set' _ _ _
 have HI0 : Hid (SI w (v3.setCell ⟨gm, 9, none⟩ (.slice A4 n2 c4)) gm gr gg #[x0, x1, x2, x3, x4, x5, x6, x7, .slice A3 n1 c3, .slice A4 n2 c4, x10] _ n1 n2 A3 c3 A4 c4 Gg L1 (Ck 0)) := hid
  ⟨by rw [e9]; exact HB4.out.set _, HX4.out.cellset (a := ⟨gm, 9, none⟩) (Ne.symm HGM.out.2.2) (.slice A4 n2 c4),
   (by obtain ⟨gc, hgc⟩ := bools_blk HR4.out; exact HR4.out.of_block (Deep.blk_setCell_other _ _ _ _ (hgc.apart HB4.out (by decide)))),
   HM4.out.past HB4.out (by decide) (by decide) hgr HGM.out.1 HG4.out.size,
   by rw [HK0.out]; exact HN4.out.past HB4.out (by decide) (by decide) hgr HGM.out.1 HG4.out.size, HG4.out.cellset HGM.out.1 9 _⟩
 clear e9 hgr HB4 HX4 HR4 HM4 HN4 HG4
 generalize v3.setCell ⟨gm, 9, none⟩ (.slice A4 n2 c4) = v4 at HI0 ⊢
 have m8 : v4.cell? ⟨gm, 8, none⟩ = some (.slice A3 n1 c3) := HI0.out.b.at 8
 go_wp2_with fail
 clear m8
 go_loopw [19] (fun i wr => ∃ k : Nat, k ≤ n1 ∧ i = .int .i64 k ∧ SI w wr gm gr gg #[x0, x1, x2, x3, x4, x5, x6, x7, .slice A3 n1 c3, .slice A4 n2 c4, x10] #[.bool false, .bool false, .int .u8 0, .int .u8 0, .int .u16 0, .int .u16 0, .int .u32 0, .int .u64 0, .slice none 0 0, .slice none 0 0, .int .i64 0] n1 n2 A3 c3 A4 c4 Gg L1 (Ck 0)) (fun i _ => n1 - (intOf i).toNat)
 case atStart => exact ⟨0, Nat.zero_le _, rfl, HI0.out⟩
 case round =>
  obtain ⟨k, hk, rfl, hi⟩ := hrel
  have HI1 := hid hi
  clear hi HI0
  by_cases hlt : k < n1
  ·have hkl : k < L1.length := by rw [← HL1.out]; exact hlt
   have d1 : decide ((k : Int) < (n1 : Int)) = true := decide_eq_true (by omega)
   have w0 : (0 : Int) ≤ (k : Int) := by omega
   have w1' : (k : Int) < (n1 : Int) := by omega
   obtain ⟨g3, cur, B1, k1, e1, hA3, hb3, hB3, hle, hcell, hby⟩ := HI1.out.s1.open hkl (by decide) (fun _ => rfl)
   subst hA3
   have h9 : cur[k * 10 + 9]? = some (.slice B1 k1 e1) := hcell 9 (by decide)
   have HBl := hid (fun W (hW : Grow wr W) => hb3.grow hW)
   have HBg := hid hB3
   have H9 := hid h9
   have HCl : Hid (∀ W, Grow wr W → Calls Try.prog 26 #[.slice B1 k1 e1] W (NewB L1[k].pl.own W)) := hid fun W hW => by
    have hl := HS1.out L1[k] (List.getElem_mem hkl)
    rcases hby with h | h
    ·exact clone_any B1 k1 e1 L1[k].pl.own w.heap.size W (h.belowAt hW HI1.out.gw.size) (Nat.le_trans HI1.out.gw.size hW.size) (by rw [h.len]; exact hl)
    ·exact clone_any B1 k1 e1 L1[k].pl.own wr.heap.size W (h.rb.belowAt hW (Nat.le_refl _)) hW.size (by rw [h.rb.len]; exact hl)
   have HKL := hid hkl
   have ho9 : Hid (∀ W (hW : SI w W gm gr gg #[x0, x1, x2, x3, x4, x5, x6, x7, .slice (some ⟨g3, 0, none⟩) n1 c3, .slice A4 n2 c4, x10] #[.bool false, .bool false, .int .u8 0, .int .u8 0, .int .u16 0, .int .u16 0, .int .u32 0, .int .u64 0, .slice none 0 0, .slice none 0 0, .int .i64 0] n1 n2 (some ⟨g3, 0, none⟩) c3 A4 c4 Gg L1 (Ck 0)) (hb : Blk W g3 55 cur) A5 n5 c5, OB W w.heap.size 5 A5 n5 c5 L1[k].pl.own → SI w (W.setCell ⟨g3, k * 10 + 9, none⟩ (.slice A5 n5 c5)) gm gr gg #[x0, x1, x2, x3, x4, x5, x6, x7, .slice (some ⟨g3, 0, none⟩) n1 c3, .slice A4 n2 c4, x10] #[.bool false, .bool false, .int .u8 0, .int .u8 0, .int .u16 0, .int .u16 0, .int .u32 0, .int .u64 0, .slice none 0 0, .slice none 0 0, .int .i64 0] n1 n2 (some ⟨g3, 0, none⟩) c3 A4 c4 Gg L1 (Ck 0)) :=
    hid fun W hW hb A5 n5 c5 ho => hW.seg hb HBg.out HKL.out ho
   have HNe : Hid (gm ≠ g3) := hid (HI1.out.b.apart hb3 (by decide))
   unfold NewB at HCl
   generalize hown : L1[k].pl.own = lo at HCl ho9
   clear hb3 hB3 hle hcell hby h9 hown hkl
   go_wp2_with fail
   refine wp_region_last (leap_kept (fun j => j = gm ∨ j = g3)) [(0, true), (1, true), (2, true), (3, true), (4, true), (5, true), (6, true), (7, true), (8, true), (9, true), (10, false), (11, true), (12, true), (13, true)] 14 (by kernel_rfl) (by kernel_rfl) (by kernel_rfl) ?_
   have HI2 := hid (HI1.out.grow (Grow.of_drew wr))
   have HB2 := hid (HBl.out _ (Grow.of_drew wr))
   have HC2 := hid (HCl.out _ (Grow.of_drew wr))
   generalize wr.drew = v0 at HI2 HB2 HC2 ⊢
   have q8 : ∀ W, Kept (fun j => j = gm ∨ j = g3) v0 W → W.cell? ⟨gm, 8, none⟩ = some (.slice (some ⟨g3, 0, none⟩) n1 c3) := fun W hW => (HI2.out.b.kept hW (.inl rfl)).at 8
   have q9 : ∀ W, Kept (fun j => j = gm ∨ j = g3) v0 W → W.cell? ⟨g3, k * 10 + 9, none⟩ = some (.slice B1 k1 e1) := fun W hW => ((HB2.out.kept hW (.inr rfl)).at _).trans H9.out
   repeat ((first | (refine chain_take rfl (by rfl) ?_ (fun W hG => ?_) ?_; rotate_left; (go_simp; rfl)) | refine chain_skip rfl (by rfl) ?_); simp only [Act.put, List.setIfInBounds_toArray, List.set_cons_zero, List.set_cons_succ])
   clear q8 q9
   refine chain_only rfl (by rfl) (fun K hK => ?_)
   go_simp
   refine HC2.out.mono ?_
   rintro e v1 ⟨A5, c5, rfl, ho, hg⟩
   refine hK _ _ (Kept.of_grow hg) ?_
   clear hK K
   have HI3 := hid (HI2.out.grow hg)
   have HB3 := hid (HB2.out.grow hg)
   have HO3 := hid (ho.mono HI2.out.gw.size)
   clear ho hg HI2 HB2 HC2 HI1 HBl HCl
   repeat ((first | (refine chain_take rfl (by rfl) ?_ (fun W hG => ?_) ?_; rotate_left; (go_simp; rfl)) | refine chain_skip rfl (by rfl) ?_); simp only [Act.put, List.setIfInBounds_toArray, List.set_cons_zero, List.set_cons_succ])
   refine chain_done (last_op rfl (by rfl) (fun K hK => ?_))
   have c9 : v1.cell? ⟨g3, k * 10 + 9, none⟩ = some (.slice B1 k1 e1) := (HB3.out.at _).trans H9.out
   have s9 := HB3.out.soft (k * 10 + 9)
   go_simp
   refine hK _ _ ?_
   clear hK K c9 s9
   have HI4 := hid (ho9.out v1 HI3.out HB3.out A5 lo.length c5 HO3.out)
   clear HI3 HB3 HO3 ho9
   go_wp2
   go_roundw
   case rel => exact ⟨k + 1, by omega, by go_num, HI4.out⟩
   case measure => simp [intOf]; omega
  ·have e : k = n1 := by omega
   subst e
   have d1 : decide ((k : Int) < (k : Int)) = false := decide_eq_false (by omega)
   have m9 : wr.cell? ⟨gm, 9, none⟩ = some (.slice A4 n2 c4) := HI1.out.b.at 9
   go_wp2_with fail
   clear m9 d1 hlt
   generalize hwq : wr = wq at HI1 ⊢
   clear hwq
   go_loopw [40] (fun i wr => ∃ j : Nat, j ≤ n2 ∧ i = .int .i64 j ∧ SI w wr gm gr gg #[x0, x1, x2, x3, x4, x5, x6, x7, .slice A3 k c3, .slice A4 n2 c4, x10] #[.bool false, .bool false, .int .u8 0, .int .u8 0, .int .u16 0, .int .u16 0, .int .u32 0, .int .u64 0, .slice none 0 0, .slice none 0 0, .int .i64 0] k n2 A3 c3 A4 c4 Gg L1 (Ck j)) (fun i _ => n2 - (intOf i).toNat)
   case atStart => exact ⟨0, Nat.zero_le _, rfl, HI1.out⟩
   case round =>
    obtain ⟨j, hj, rfl, hi⟩ := hrel
    have HI2 := hid hi
    clear hi HI1
    by_cases hlt : j < n2
    ·have hjl : j < L2.length := by rw [← HL2.out]; exact hlt
     have hjc : j < (Ck j).length := by rw [HKl.out]; exact hjl
     have d1 : decide ((j : Int) < (n2 : Int)) = true := decide_eq_true (by omega)
     have w0 : (0 : Int) ≤ (j : Int) := by omega
     have w1' : (j : Int) < (n2 : Int) := by omega
     obtain ⟨g4, cur, B1, k1, e1, hA4, hb4, hB4, hle, hcell, hby⟩ := HI2.out.s2.open hjc (by decide) (fun _ => rfl)
     subst hA4
     have qg : wr.cell? ⟨gg, j, none⟩ = some (.bool (Gg j)) := HI2.out.g.cell hlt
     cases hG : Gg j with
     | true =>
      rw [hG] at qg
      have HKj := hid (HKs.out j hjl hG)
      have HHb := hid hb4
      have HHB := hid hB4
      have HLe := hid hle
      have HJc := hid hjc
      have m9 : wr.cell? ⟨gm, 9, none⟩ = some (.slice (some ⟨g4, 0, none⟩) n2 c4) := HI2.out.b.at 9
      clear hb4 hB4 hle hcell hby hG hjl hjc
      go_wp2_with (refine wpList_store_zo rfl 53 (.tmp 52) (.tmp 51) rfl HI2.out.s2 HHb.out HHB.out HI2.out.gw.size (by decide) HJc.out (by decide) HLe.out (r := seC seX (.slice none 0 0)) (b := seX) rfl (by simp [seC, seX, Value.oneCell']) ⟨none, 0, 0, rfl, .inl RB.nil⟩ (by kernel_rfl) rfl rfl ?_; intro cs9 hm9; refine Hid.out ?_)
      have HI9 := hid (HI2.out.row HHb.out HHB.out hm9)
      rw [← HKj.out] at HI9
      clear hm9 HI2 HKj HHb HHB HLe HJc m9 qg
      refine hid ?_
      go_wp2
      go_roundw
      case rel => exact ⟨j + 1, by omega, by go_num, HI9.out⟩
      case measure => simp [intOf]; omega
     | false =>
      rw [hG] at qg
      have HKj := hid (HKf.out j hjl hG)
      have h9 : cur[j * 13 + 12]? = some (.slice B1 k1 e1) := hcell 12 (by decide)
      have HBl := hid (fun W (hW : Grow wr W) => hb4.grow hW)
      have HBg := hid hB4
      have H9 := hid h9
      have hsame := HKa.out j hjl hjc
      have HCl : Hid (∀ W, Grow wr W → Calls Try.prog 26 #[.slice B1 k1 e1] W (NewB (Ck j)[j].pl.own W)) := hid fun W hW => by
       have hl : (Ck j)[j].pl.own.length ≤ 140737488355328 := by rw [hsame]; exact HS2.out L2[j] (List.getElem_mem hjl)
       rcases hby with h | h
       ·exact clone_any B1 k1 e1 (Ck j)[j].pl.own w.heap.size W (h.belowAt hW HI2.out.gw.size) (Nat.le_trans HI2.out.gw.size hW.size) (by rw [h.len]; exact hl)
       ·exact clone_any B1 k1 e1 (Ck j)[j].pl.own wr.heap.size W (h.rb.belowAt hW (Nat.le_refl _)) hW.size (by rw [h.rb.len]; exact hl)
      have HJc := hid hjc
      have ho9 : Hid (∀ W (hW : SI w W gm gr gg #[x0, x1, x2, x3, x4, x5, x6, x7, .slice A3 k c3, .slice (some ⟨g4, 0, none⟩) n2 c4, x10] #[.bool false, .bool false, .int .u8 0, .int .u8 0, .int .u16 0, .int .u16 0, .int .u32 0, .int .u64 0, .slice none 0 0, .slice none 0 0, .int .i64 0] k n2 A3 c3 (some ⟨g4, 0, none⟩) c4 Gg L1 (Ck j)) (hb : Blk W g4 53 cur) A5 n5 c5, OB W w.heap.size 5 A5 n5 c5 (Ck j)[j].pl.own → SI w (W.setCell ⟨g4, j * 13 + 12, none⟩ (.slice A5 n5 c5)) gm gr gg #[x0, x1, x2, x3, x4, x5, x6, x7, .slice A3 k c3, .slice (some ⟨g4, 0, none⟩) n2 c4, x10] #[.bool false, .bool false, .int .u8 0, .int .u8 0, .int .u16 0, .int .u16 0, .int .u32 0, .int .u64 0, .slice none 0 0, .slice none 0 0, .int .i64 0] k n2 A3 c3 (some ⟨g4, 0, none⟩) c4 Gg L1 (Ck (j + 1))) :=
       hid fun W hW hb A5 n5 c5 ho => by rw [HKj.out]; exact hW.sec hb HBg.out HJc.out ho
      unfold NewB at HCl
      have m9 : wr.cell? ⟨gm, 9, none⟩ = some (.slice (some ⟨g4, 0, none⟩) n2 c4) := HI2.out.b.at 9
      generalize hown : (Ck j)[j].pl.own = lo at HCl ho9
      clear hb4 hB4 hle hcell hby h9 hown hjl hjc hG hsame HKj
      go_wp2_with fail
      clear m9 qg
      refine wp_region_last (leap_kept (fun j => j = gm ∨ j = g4)) [(0, true), (1, true), (2, true), (3, true), (4, true), (5, true), (6, true), (7, true), (8, true), (9, true), (10, false), (11, true), (12, true), (13, true)] 14 (by kernel_rfl) (by kernel_rfl) (by kernel_rfl) ?_
      have HI3 := hid (HI2.out.grow (Grow.of_drew wr))
      have HB3 := hid (HBl.out _ (Grow.of_drew wr))
      have HC3 := hid (HCl.out _ (Grow.of_drew wr))
      generalize wr.drew = v0 at HI3 HB3 HC3 ⊢
      have q8 : ∀ W, Kept (fun j => j = gm ∨ j = g4) v0 W → W.cell? ⟨gm, 9, none⟩ = some (.slice (some ⟨g4, 0, none⟩) n2 c4) := fun W hW => (HI3.out.b.kept hW (.inl rfl)).at 9
      have q9 : ∀ W, Kept (fun j => j = gm ∨ j = g4) v0 W → W.cell? ⟨g4, j * 13 + 12, none⟩ = some (.slice B1 k1 e1) := fun W hW => ((HB3.out.kept hW (.inr rfl)).at _).trans H9.out
      repeat ((first | (refine chain_take rfl (by rfl) ?_ (fun W hG => ?_) ?_; rotate_left; (go_simp; rfl)) | refine chain_skip rfl (by rfl) ?_); simp only [Act.put, List.setIfInBounds_toArray, List.set_cons_zero, List.set_cons_succ])
      clear q8 q9
      refine chain_only rfl (by rfl) (fun K hK => ?_)
      go_simp
      refine HC3.out.mono ?_
      rintro e v1 ⟨A5, c5, rfl, ho, hg⟩
      refine hK _ _ (Kept.of_grow hg) ?_
      clear hK K
      have HI4 := hid (HI3.out.grow hg)
      have HB4 := hid (HB3.out.grow hg)
      have HO4 := hid (ho.mono HI3.out.gw.size)
      clear ho hg HI3 HB3 HC3 HI2 HBl HCl
      repeat ((first | (refine chain_take rfl (by rfl) ?_ (fun W hG => ?_) ?_; rotate_left; (go_simp; rfl)) | refine chain_skip rfl (by rfl) ?_); simp only [Act.put, List.setIfInBounds_toArray, List.set_cons_zero, List.set_cons_succ])
      refine chain_done (last_op rfl (by rfl) (fun K hK => ?_))
      have c9 : v1.cell? ⟨g4, j * 13 + 12, none⟩ = some (.slice B1 k1 e1) := (HB4.out.at _).trans H9.out
      have s9 := HB4.out.soft (j * 13 + 12)
      go_simp
      refine hK _ _ ?_
      clear hK K c9 s9
      have HI5 := hid (ho9.out v1 HI4.out HB4.out A5 lo.length c5 HO4.out)
      clear HI4 HB4 HO4 ho9
      go_wp2
      go_roundw
      case rel => exact ⟨j + 1, by omega, by go_num, HI5.out⟩
      case measure => simp [intOf]; omega
    ·have e : j = n2 := by omega
     subst e
     have d1 : decide ((j : Int) < (j : Int)) = false := decide_eq_false (by omega)
     obtain ⟨m0, m1, m2, m3, m4, m5, m6, m7, m8, m9, m10⟩ := HI2.out.b.c11
     obtain ⟨o0, o1, o2, o3, o4, o5, o6, o7, o10⟩ := HOne.out
     have hall : (#[x0, x1, x2, x3, x4, x5, x6, x7, .slice A3 k c3, .slice A4 j c4, x10] : Array Value).all (·.oneCell') = true := by
      simp only [List.all_toArray, List.all_cons, List.all_nil, o0, o1, o2, o3, o4, o5, o6, o7, o10, Bool.true_and, Bool.and_true]
      rfl
     have HAll := hid hall
     clear o0 o1 o2 o3 o4 o5 o6 o7 o10 hall
     go_wp2_with (refine wpList_store_row rfl 32 (.tmp 2) (.tmp 68) rfl gr _ rfl rfl _ _ HI2.out.r (by kernel_rfl) rfl HAll.out ?_)
     clear m0 m1 m2 m3 m4 m5 m6 m7 m8 m9 m10
     refine bodyPost_ret (results_cell_row rfl _ _ gr _ _ (0, 0) _ rfl (HI2.out.r.set _) Try.underlying32 rfl (by kernel_rfl)) rfl ?_
     have hgr : ∀ cs, wr.grownBy (wr.setRow gr cs) (some gr) := fun cs => ⟨rfl, rfl, rfl, by simp, fun j _ hj => setRow_other wr gr j cs (fun e => hj (by rw [e]))⟩
     have hs : ∀ cs, w.heap.size ≤ (wr.setRow gr cs).heap.size := fun cs => by simpa using HI2.out.gw.size
     refine ⟨A3, c3, A4, c4, rfl, (HI2.out.s1.past HI2.out.r (by decide) (by decide) (hgr _) HGM.out.2.1 HI2.out.gw.size).zr (hs _), ?_, HI2.out.gw.set HGM.out.2.1 _⟩
     rw [← HKn.out]
     exact (HI2.out.s2.past HI2.out.r (by decide) (by decide) (hgr _) HGM.out.2.1 HI2.out.gw.size).zr (hs _)
set_option maxRecDepth 100000
set_option linter.unusedVariables false
def se18 : Se := ⟨0, 2, 0, 0, 0, 0, 0, 0, 0, ⟨-1, 0, 0, []⟩⟩
def md18 : Md := ⟨false, false, 0, 0, 0, 0, 0, 0, [], [se18], 0⟩
def md18n : Md := ⟨false, false, 0, 0, 0, 0, 0, 0, [], [], 0⟩
theorem se18_ok : se18.Ok := ⟨by decide, by decide, by decide, by decide, by decide, by decide, by decide, by decide, by decide, ⟨by unfold I64; decide, by decide, by decide⟩⟩
theorem md18_ok : md18.Ok := ⟨by decide, by decide, by decide, by decide, by decide, by decide, fun s h => absurd h (by simp [md18]), fun s h => by
 obtain rfl : s = se18 := by simpa [md18] using h
 exact se18_ok, by unfold I64; decide⟩
theorem md18n_ok : md18n.Ok := ⟨by decide, by decide, by decide, by decide, by decide, by decide, fun s h => absurd h (by simp [md18n]), fun s h => absurd h (by simp [md18n]), by unfold I64; decide⟩
theorem strip18 (g : Nat) (w : World) (hg : Blk w g 53 (seC se18 (.slice none 0 0))) :
  Calls Try.prog 9 #[.agg #[.bool false, .bool false, .int .u8 0, .int .u8 0, .int .u16 0, .int .u16 0, .int .u32 0, .int .u64 0, .slice none 0 0, .slice (some ⟨g, 0, none⟩) 1 1, .int .i64 0]] w fun e w' =>
   ∃ A3 c3 b off c4, e = .returned (.agg #[.bool false, .bool false, .int .u8 0, .int .u8 0, .int .u16 0, .int .u16 0, .int .u32 0, .int .u64 0, .slice A3 0 c3, .slice (some ⟨b, off, none⟩) 1 c4, .int .i64 0]) ∧ b < w'.heap.size ∧ w'.cell? ⟨b, off + 1, none⟩ = some (.int .u32 0) ∧ Grow w w' := by
 have hz : ZR seK w w.heap.size (some ⟨g, 0, none⟩) 1 1 md18.secs := ZR.one (K := seK) (a := se18) (A := none) (n := 0) (c := 0) hg RB.nil rfl hg.lt
 refine Calls.mono (strip_any md18 md18_ok none (some ⟨g, 0, none⟩) 0 0 1 1 w ZR.nil hz (by decide) (by decide) (by decide) (by decide) (by decide)) ?_
 rintro e w' ⟨A3, c3, A4, c4, rfl, -, h4, hgr⟩
 have hs : md18.strip.secs = [seX] := by kernel_rfl
 rw [hs] at h4
 obtain ⟨b, off, rfl, hb⟩ := h4.pos (by decide)
 obtain ⟨A, n, c, -, hc, -⟩ := h4.at (k := 0) (by decide)
 exact ⟨A3, c3, b, off, c4, rfl, hb, by simpa [seK] using hc 1 (.int .u32 0) rfl, hgr⟩
theorem goes18 (w : World) :
  Calls Try.prog 12 #[.agg #[.bool false, .bool false, .int .u8 0, .int .u8 0, .int .u16 0, .int .u16 0, .int .u32 0, .int .u64 0, .slice none 0 0, .slice none 0 0, .int .i64 0]] w fun e w' =>
   ∃ g, e = .returned (.slice (some ⟨g, 0, none⟩) 0 0) ∧ Grow w w' := by
 refine Calls.mono (goes_any md18n md18n_ok none none 0 0 0 0 w ZR.nil ZR.nil (by decide) (by decide)) ?_
 rintro e w' ⟨g, rfl, -, -, hgr⟩
 exact ⟨g, rfl, hgr⟩
set_option maxHeartbeats 4000000 in
theorem up18 (w : World) : Calls Try.prog 5 #[] w fun e w' => e = .returned (.bool true) ∧ Grow w w' := by
 go_enter Try.func5, Try.ntmps5
 go_wp2_with fail
 generalize hW : World.alloc _ _ = W0
 obtain ⟨b1, hg⟩ := blk1 hW
 clear hW
 have HG0 := hid hg
 refine (strip18 _ W0 b1).mono ?_
 clear hg b1
 rintro e w1 ⟨A3, c3, b, off, c4, rfl, hb, hc, hg⟩
 have HG1 : Hid (Grow w w1) := hid (HG0.out.trans hg)
 have HC1 := hid hc
 have HBb := hid hb
 clear hg hc hb HG0
 go_wp2_with fail
 generalize hW : World.alloc _ _ = W2
 obtain ⟨b1, hg⟩ := blk1 hW
 clear hW
 have HX2 := hid b1
 have HC2 := hid ((Below.cell hg HBb.out).trans HC1.out)
 have HG2 : Hid (Grow w W2) := hid (HG1.out.trans hg)
 have HB2 := hid (Nat.lt_of_lt_of_le HBb.out hg.size)
 clear b1 hg HG1 HC1 HBb
 generalize w1.heap.size = gx at HX2 ⊢
 refine (goes18 W2).mono ?_
 rintro e w3 ⟨g, rfl, hg⟩
 have HG3 : Hid (Grow w w3) := hid (HG2.out.trans hg)
 have c9 : w3.cell? ⟨gx, 9, none⟩ = some (.slice (some ⟨b, off, none⟩) 1 c4) := (HX2.out.grow hg).at 9
 have c1 : w3.cell? ⟨b, off + 1, none⟩ = some (.int .u32 0) := (Below.cell hg HB2.out).trans HC2.out
 clear hg HX2 HC2 HG2 HB2
 go_wp2
 go_ret
 exact ⟨rfl, HG3.out⟩
end Go.Proofs.Ytfbimboemahhhaa
