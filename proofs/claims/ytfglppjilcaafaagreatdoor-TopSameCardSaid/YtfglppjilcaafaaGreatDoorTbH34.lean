/-
  Several texts in one: The document's own plan beside the plain one; The contract of the document's own Sizes; A region that draws its order, walked along a tree of orders; A stop in the walk behind a part of the code; The document's own plan in memory.
-/
import Derived.Test.YtfglppjilcaafaaGreatDoorTbH31
import Derived.Test.YtfglppjilcaafaaGreatDoorTbH10
import Derived.Test.YtfglppjilcaafaaGreatDoorRows
import Derived.Test.YtfglppjilcaafaaGreatDoorTbH4
import Derived.OwnWalk
import Derived.Test.YtfglppjilcaafaaGreatDoorTbH1
import Derived.Test.YtfglppjilcaafaaGreatDoorTbH26
import Derived.Test.YtfglppjilcaafaaGreatDoorTbH3
namespace Go.Proofs.YtfglppjilcaafaaGreatDoor
def Lk (e r : Nat) : Prop := (r ≤ 65536 → e = r) ∧ (65536 < r → e = 65537)
theorem Lk.step {e r v a x n : Nat} (h : Lk e r) (hx : NextR r v a x) : Lk (fin e v a n) (x + n) ∧ (x + n ≤ 65536 → r ≤ 65536 ∧ x = plc e v a) := by
 obtain ⟨h1, h2⟩ := h
 obtain ⟨x1, x2, x3⟩ := hx
 rcases Nat.lt_or_ge 65536 r with hr | hr
 ·have he := h2 hr
  have g1 := nxt_ge r v a
  have hx := x2 (by omega)
  have g2 := nxt_ge e v a
  refine ⟨⟨fun h => by omega, fun _ => ?_⟩, fun h => by omega⟩
  unfold fin plc
  omega
 ·obtain rfl := h1 hr
  rcases Nat.lt_or_ge 65536 (nxt e v a) with hn | hn
  ·have hx := x2 hn
   refine ⟨⟨fun h => by omega, fun _ => ?_⟩, fun h => by omega⟩
   unfold fin plc
   omega
  ·have hx := x1 hn
   subst hx
   refine ⟨⟨fun h => ?_, fun h => ?_⟩, fun h => ⟨hr, ?_⟩⟩
   ·unfold fin plc; omega
   ·unfold fin plc; omega
   ·unfold plc; omega
theorem Lk.start {e : Nat} (h : e ≤ 65536) : Lk e e := ⟨fun _ => rfl, fun h' => by omega⟩
def StL (m : Md) (n k r : Nat) (F : Nat → Nat) : Prop := Lk (m.eL k) r ∧ (r ≤ 65536 → ∀ j, j < n → F j = upTo m.P1 k j) ∧ r < 18446744073709551616
def StO (m : Md) (n k r : Nat) (F : Nat → Nat) : Prop := Lk (m.eO k) r ∧ (r ≤ 65536 → ∀ j, j < n → F j = mixP m k j) ∧ r < 18446744073709551616
def StS (m : Md) (n1 n k r : Nat) (F G : Nat → Nat) : Prop := Lk (m.eS k) r ∧ (r ≤ 65536 → (∀ j, j < n1 → F j = m.P2 j) ∧ ∀ j, j < n → G j = upTo m.P3 k j) ∧ r < 18446744073709551616
def put1 (F : Nat → Nat) (k v : Nat) (j : Nat) : Nat := if j = k then v else F j
theorem StL.load {m : Md} {n k r x : Nat} {F : Nat → Nat} (h : StL m n k r F) (ht : (m.sg k).typ = 1) (hx : NextR r (m.sg k).vaddr (m.sg k).align x) (hz : (m.sg k).pl.size < 9223372036854775808) :
  StL m n (k + 1) (x + (m.sg k).pl.size) (put1 F k x) := by
 obtain ⟨h1, h2, h3⟩ := h
 obtain ⟨s1, s2⟩ := h1.step (n := (m.sg k).pl.size) hx
 refine ⟨?_, fun hr j hj => ?_, by have := hx.2.2; omega⟩
 ·rw [Md.eL, if_pos ht]; exact s1
 ·obtain ⟨hr', hx'⟩ := s2 hr
  have hF := h2 hr' j hj
  unfold put1 upTo at *
  by_cases e : j = k
  ·subst e
   rw [if_pos rfl, if_pos (by omega), hx', Md.P1, if_pos ht]
  ·rw [if_neg e, hF]
   by_cases e2 : j < k
   ·rw [if_pos e2, if_pos (by omega)]
   ·rw [if_neg e2, if_neg (by omega)]
theorem StL.skip {m : Md} {n k r : Nat} {F : Nat → Nat} (h : StL m n k r F) (ht : (m.sg k).typ ≠ 1) : StL m n (k + 1) r F := by
 obtain ⟨h1, h2, h3⟩ := h
 refine ⟨?_, fun hr j hj => ?_, h3⟩
 ·rw [Md.eL, if_neg ht]; exact h1
 ·rw [h2 hr j hj, upTo_skip m k ht]
theorem StL.toO {m : Md} {n r : Nat} {F : Nat → Nat} (h : StL m n n r F) (hn : n = m.segs.length) : StO m n 0 r F := by
 obtain ⟨h1, h2, h3⟩ := h
 refine ⟨?_, fun hr j hj => ?_, h3⟩
 ·rw [Md.eO, ← hn]; exact h1
 ·rw [h2 hr j hj, mix_zero]
  unfold upTo
  rw [if_pos hj]
theorem StO.keep {m : Md} {n k r : Nat} {F : Nat → Nat} (h : StO m n k r F) (ht : (m.sg k).typ = 1) : StO m n (k + 1) r F := by
 obtain ⟨h1, h2, h3⟩ := h
 refine ⟨?_, fun hr j hj => ?_, h3⟩
 ·rw [Md.eO, if_pos ht]; exact h1
 ·rw [h2 hr j hj, mix_keep m k ht]
theorem mix_put {m : Md} {n k v : Nat} {F : Nat → Nat} (h : ∀ j, j < n → F j = mixP m k j) (hv : v = m.P2 k) : ∀ j, j < n → put1 F k v j = mixP m (k + 1) j := fun j hj => by
 have := h j hj
 unfold put1 mixP at *
 by_cases e : j = k
 ·subst e
  rw [if_pos rfl, if_pos (by omega), hv]
 ·rw [if_neg e, this]
  by_cases e2 : j < k
  ·rw [if_pos e2, if_pos (by omega)]
  ·rw [if_neg e2, if_neg (by omega)]
theorem StO.own {m : Md} {n k r x : Nat} {F : Nat → Nat} (h : StO m n k r F) (ht : (m.sg k).typ ≠ 1) (hi : (m.sg k).pl.inn = -1) (hx : NextR r 0 8 x) (hz : (m.sg k).pl.size < 9223372036854775808) :
  StO m n (k + 1) (x + (m.sg k).pl.size) (put1 F k x) := by
 obtain ⟨h1, h2, h3⟩ := h
 obtain ⟨s1, s2⟩ := h1.step (n := (m.sg k).pl.size) hx
 refine ⟨?_, fun hr => ?_, by have := hx.2.2; omega⟩
 ·rw [Md.eO, if_neg ht, if_pos hi]; exact s1
 ·obtain ⟨hr', hx'⟩ := s2 hr
  exact mix_put (h2 hr') (by rw [hx', Md.P2, if_neg ht, if_pos hi])
theorem StO.seg {m : Md} {n k r i : Nat} {F : Nat → Nat} (h : StO m n k r F) (ht : (m.sg k).typ ≠ 1) (hi : (m.sg k).pl.inn = (i : Int)) (hin : i < n) (hty : (m.sg i).typ = 1) (hof : (m.sg k).pl.off < 9223372036854775808) :
  StO m n (k + 1) r (put1 F k ((F i + (m.sg k).pl.off) % 18446744073709551616)) := by
 obtain ⟨h1, h2, h3⟩ := h
 have hne : ¬ ((m.sg k).pl.inn = -1) := by omega
 refine ⟨?_, fun hr => ?_, h3⟩
 ·rw [Md.eO, if_neg ht, if_neg hne]; exact h1
 ·have := h2 hr i hin
  rw [mix_loaded m k i hty] at this
  have hl := m.P1_le i
  have e : m.P2 k = m.P1 i + (m.sg k).pl.off := by unfold Md.P2; rw [if_neg ht, if_neg hne, hi]; rfl
  exact mix_put (h2 hr) (by rw [this, e, Nat.mod_eq_of_lt (by omega)])
theorem StO.toS {m : Md} {n n2 r : Nat} {F G : Nat → Nat} (h : StO m n n r F) (hn : n = m.segs.length) (hG : ∀ j, j < n2 → G j = 0) : StS m n n2 0 r F G := by
 obtain ⟨h1, h2, h3⟩ := h
 refine ⟨?_, fun hr => ⟨fun j hj => ?_, fun j hj => ?_⟩, h3⟩
 ·rw [Md.eS, ← hn]; exact h1
 ·rw [h2 hr j hj]; unfold mixP; rw [if_pos hj]
 ·rw [hG j hj]; unfold upTo; rw [if_neg (by omega)]
theorem up_put {m : Md} {n k v : Nat} {G : Nat → Nat} (h : ∀ j, j < n → G j = upTo m.P3 k j) (hv : v = m.P3 k) : ∀ j, j < n → put1 G k v j = upTo m.P3 (k + 1) j := fun j hj => by
 have := h j hj
 unfold put1 upTo at *
 by_cases e : j = k
 ·subst e
  rw [if_pos rfl, if_pos (by omega), hv]
 ·rw [if_neg e, this]
  by_cases e2 : j < k
  ·rw [if_pos e2, if_pos (by omega)]
  ·rw [if_neg e2, if_neg (by omega)]
theorem StS.own {m : Md} {n1 n k r x : Nat} {F G : Nat → Nat} (h : StS m n1 n k r F G) (hi : (m.se k).pl.inn = -1) (hx : NextR r 0 8 x) (hz : (m.se k).pl.size < 9223372036854775808) :
  StS m n1 n (k + 1) (x + (m.se k).pl.size) F (put1 G k x) := by
 obtain ⟨h1, h2, h3⟩ := h
 obtain ⟨s1, s2⟩ := h1.step (n := (m.se k).pl.size) hx
 refine ⟨?_, fun hr => ?_, by have := hx.2.2; omega⟩
 ·rw [Md.eS, if_pos hi]; exact s1
 ·obtain ⟨hr', hx'⟩ := s2 hr
  exact ⟨(h2 hr').1, up_put (h2 hr').2 (by rw [hx', Md.P3, if_pos hi])⟩
theorem StS.seg {m : Md} {n1 n k r i : Nat} {F G : Nat → Nat} (h : StS m n1 n k r F G) (hi : (m.se k).pl.inn = (i : Int)) (hin : i < n1) (hof : m.P2 i + (m.se k).pl.off < 18446744073709551616) :
  StS m n1 n (k + 1) r F (put1 G k ((F i + (m.se k).pl.off) % 18446744073709551616)) := by
 obtain ⟨h1, h2, h3⟩ := h
 have hne : ¬ ((m.se k).pl.inn = -1) := by omega
 refine ⟨?_, fun hr => ?_, h3⟩
 ·rw [Md.eS, if_neg hne]; exact h1
 ·have := (h2 hr).1 i hin
  have e : m.P3 k = m.P2 i + (m.se k).pl.off := by unfold Md.P3; rw [if_neg hne, hi]; rfl
  exact ⟨(h2 hr).1, up_put (h2 hr).2 (by rw [this, e, Nat.mod_eq_of_lt (by omega)])⟩
end Go.Proofs.YtfglppjilcaafaaGreatDoor
namespace Go.Proofs.YtfglppjilcaafaaGreatDoor
open Go.RowKit
theorem sizes_any (wide big : Bool) (w : World) : Calls Tryz.prog 21 #[.agg #[.bool wide, .bool big]] w fun e w' =>
  e = .returned (.tuple #[.int .i64 (hSize wide : Nat), .int .i64 (byWide wide 32 56 : Nat), .int .i64 (byWide wide 40 64 : Nat)]) ∧ Grow w w' := by
 cases wide
 ·go_enter Tryz.func21, Tryz.ntmps21
  go_wp2
  go_ret3
  exact ⟨rfl, Grow.of_alloc _ _⟩
 ·go_enter Tryz.func21, Tryz.ntmps21
  go_wp2
  go_ret3
  exact ⟨rfl, Grow.of_alloc _ _⟩
inductive Tq where
 | done
 | chain (c : Chain) (t : Tq)
 | both (i : Nat) (s : Tq) (j : Nat) (t : Tq)
 | three (i : Nat) (s : Tq) (j : Nat) (t : Tq) (k : Nat) (u : Tq)
def Tq.len : Tq → Nat
 | .done => 0
 | .chain c t => c.length + t.len
 | .both _ s _ _ => s.len + 1
 | .three _ s _ _ _ _ => s.len + 1
def Tq.ok (ops : Array Oper) : Tq → Array Bool → Bool
 | .done, l => Region.ready .any ops l == []
 | .chain c t, l => Chain.ok ops c l && t.ok ops (Chain.after l c)
 | .both i s j t, l => (Region.ready .any ops l == [i, j]) && s.ok ops (l.setIfInBounds i true) && t.ok ops (l.setIfInBounds j true) && (s.len == t.len)
 | .three i s j t k u, l => (Region.ready .any ops l == [i, j, k]) && s.ok ops (l.setIfInBounds i true) && t.ok ops (l.setIfInBounds j true) && u.ok ops (l.setIfInBounds k true) && (s.len == t.len) && (s.len == u.len)
def wpTq (P : Program) (ops : Array Oper) (Q : Exit → Act → World → Prop) (Y : World → World → Prop) : Tq → Act → World → Prop
 | .done, a, w => Q .normal a w
 | .chain c t, a, w => wpChain P ops (NoPanic Q) Y (fun a w => wpTq P ops Q Y t a w) c a w
 | .both i s j t, a, w => wpOp P ops (NoPanic Q) i (fun a' w' => Y w w' ∧ wpTq P ops Q Y s a' w') a w ∧ wpOp P ops (NoPanic Q) j (fun a' w' => Y w w' ∧ wpTq P ops Q Y t a' w') a w
 | .three i s j t k u, a, w => wpOp P ops (NoPanic Q) i (fun a' w' => Y w w' ∧ wpTq P ops Q Y s a' w') a w ∧ wpOp P ops (NoPanic Q) j (fun a' w' => Y w w' ∧ wpTq P ops Q Y t a' w') a w ∧ wpOp P ops (NoPanic Q) k (fun a' w' => Y w w' ∧ wpTq P ops Q Y u a' w') a w
section
variable {P : Program} {ops : Array Oper} {Q : Exit → Act → World → Prop} {Y : World → World → Prop}
theorem wpTq_sound (hy : Leap Y) (hs : Region.noSelect ops = true) : ∀ (t : Tq) (l : Array Bool) (a : Act) (w : World), t.ok ops l = true → wpTq P ops Q Y t a w → wpAnyH P .any ops (NoPanic Q) (Y w) t.len l a w
 | .done, l, a, w, hB, h => ⟨by simpa [Tq.ok] using hB, h⟩
 | .chain c t, l, a, w, hB, h => by
  simp only [Tq.ok, Bool.and_eq_true] at hB
  have := wpChain_sound (P := P) (ops := ops) (Q := NoPanic Q) (Y := Y) (R := fun a w => wpTq P ops Q Y t a w) hy hs (fun _ _ _ h => h) t.len c l a w (fun a w h => wpTq_sound hy hs t _ a w hB.2 h) hB.1 h
  rwa [Nat.add_comm] at this
 | .both i s j t, l, a, w, hB, h => by
  simp only [Tq.ok, Bool.and_eq_true] at hB
  obtain ⟨⟨⟨b1, b2⟩, b3⟩, b4⟩ := hB
  refine wpAnyH_all (rs := [i, j]) (by simpa using b1) (by simp) ?_
  intro k hk
  by_cases hki : k = i
  ·subst hki
   exact wpOp_mono (fun a' w' h' => ⟨h'.1, wpAnyH_weaken (fun W hW => hy.trans _ _ _ h'.1 hW) _ _ _ _ (wpTq_sound hy hs s _ a' w' b2 h'.2)⟩) h.1
  ·obtain rfl : k = j := by
    rcases List.mem_cons.1 hk with e1 | e1
    ·exact absurd e1 hki
    ·simpa using e1
   have e : s.len = t.len := by simpa using b4
   rw [e]
   exact wpOp_mono (fun a' w' h' => ⟨h'.1, wpAnyH_weaken (fun W hW => hy.trans _ _ _ h'.1 hW) _ _ _ _ (wpTq_sound hy hs t _ a' w' b3 h'.2)⟩) h.2
 | .three i s j t k u, l, a, w, hB, h => by
  simp only [Tq.ok, Bool.and_eq_true] at hB
  obtain ⟨⟨⟨⟨⟨b1, b2⟩, b3⟩, b4⟩, b5⟩, b6⟩ := hB
  refine wpAnyH_all (rs := [i, j, k]) (by simpa using b1) (by simp) ?_
  intro m hm
  by_cases hmi : m = i
  ·subst hmi
   exact wpOp_mono (fun a' w' h' => ⟨h'.1, wpAnyH_weaken (fun W hW => hy.trans _ _ _ h'.1 hW) _ _ _ _ (wpTq_sound hy hs s _ a' w' b2 h'.2)⟩) h.1
  ·by_cases hmj : m = j
   ·subst hmj
    have e : s.len = t.len := by simpa using b5
    rw [e]
    exact wpOp_mono (fun a' w' h' => ⟨h'.1, wpAnyH_weaken (fun W hW => hy.trans _ _ _ h'.1 hW) _ _ _ _ (wpTq_sound hy hs t _ a' w' b3 h'.2)⟩) h.2.1
   ·obtain rfl : m = k := by simpa [hmi, hmj] using hm
    have e : s.len = u.len := by simpa using b6
    rw [e]
    exact wpOp_mono (fun a' w' h' => ⟨h'.1, wpAnyH_weaken (fun W hW => hy.trans _ _ _ h'.1 hW) _ _ _ _ (wpTq_sound hy hs u _ a' w' b4 h'.2)⟩) h.2.2
theorem wp_region_tq (hy : Leap Y) {id : Nat} {a : Act} {w : World} (t : Tq) (hm : P.follows .mixedOrders = true) (hs : Region.noSelect ops = true)
  (hB : (t.ok ops (Array.replicate ops.size false) && (t.len == ops.size)) = true) (h : wpTq P ops Q Y t a w.drew) : (Code.region id ops true).wp P Q a w := by
 simp only [Bool.and_eq_true] at hB
 have hl : t.len = ops.size := by simpa using hB.2
 refine wp_region_noPanic (wp_region_held (S := Y w.drew) hm ?_)
 have := wpTq_sound (P := P) (ops := ops) (Q := Q) (Y := Y) hy hs t _ a w.drew hB.1 h
 rwa [hl] at this
theorem tq_done {a : Act} {w : World} (h : Q .normal a w) : wpTq P ops Q Y .done a w := h
theorem tq_chain {c : Chain} {t : Tq} {a : Act} {w : World} (h : wpChain P ops (NoPanic Q) Y (fun a w => wpTq P ops Q Y t a w) c a w) : wpTq P ops Q Y (.chain c t) a w := h
theorem tq_both {i j : Nat} {s t : Tq} {a : Act} {w : World} (h1 : wpOp P ops (NoPanic Q) i (fun a' w' => Y w w' ∧ wpTq P ops Q Y s a' w') a w) (h2 : wpOp P ops (NoPanic Q) j (fun a' w' => Y w w' ∧ wpTq P ops Q Y t a' w') a w) :
  wpTq P ops Q Y (.both i s j t) a w := ⟨h1, h2⟩
theorem tq_three {i j k : Nat} {s t u : Tq} {a : Act} {w : World} (h1 : wpOp P ops (NoPanic Q) i (fun a' w' => Y w w' ∧ wpTq P ops Q Y s a' w') a w) (h2 : wpOp P ops (NoPanic Q) j (fun a' w' => Y w w' ∧ wpTq P ops Q Y t a' w') a w)
  (h3 : wpOp P ops (NoPanic Q) k (fun a' w' => Y w w' ∧ wpTq P ops Q Y u a' w') a w) : wpTq P ops Q Y (.three i s j t k u) a w := ⟨h1, h2, h3⟩
end
attribute [irreducible] wpTq
theorem wp_cut {P : Program} {c : Code} {a : Act} {w : World} {K : Act → World → Prop} {Q : Exit → Act → World → Prop} (I : Act → Act → World → Prop) (h : c.wp P (fun e a' w' => e = .normal ∧ I a a' w') a w) (hk : ∀ a' w', I a a' w' → K a' w') : c.wp P (Exit.then K Q) a w :=
 wp_mono h fun e a' w' ⟨he, hi⟩ => by subst he; exact hk a' w' hi
theorem Md.segC_load {m : Md} {s : Sg} (h : m.segC s = 0) (ht : s.typ = 1) : s.pl.inn = -1 := by
 unfold Md.segC at h
 split at h
 ·omega
 split at h
 ·omega
 split at h
 ·omega
 split at h
 ·omega
 ·rename_i h1
  omega
theorem rows_zero (w : World) (n : Nat) : Row (w.alloc (.cells (madeCells #[.int .u64 0] n) 28)) w.heap.size n (fun _ => 0) :=
 (World.rowIs_made w (.int .u64 0) n 28).congr fun i _ => by simp [ivl]
theorem Row.below {w w' : World} {g n B : Nat} {f : Nat → Nat} (h : Row w g n f) (hg : Below B w w') (hB : g < B) : Row w' g n f := World.rowIs.of_block h (hg.block g hB)
theorem Row.grow {w w' : World} {g n : Nat} {f : Nat → Nat} (h : Row w g n f) (hg : Grow w w') : Row w' g n f := h.below hg h.lt
theorem Row.set1 {w : World} {g n : Nat} {f : Nat → Nat} (h : Row w g n f) (k v : Nat) : Row (w.setCell ⟨g, k, none⟩ (.int .u64 (v : Int))) g n (put1 f k v) :=
 (World.rowIs.set h k _).congr fun j _ => by unfold ivl put1; split <;> rfl
theorem Row.setOther {w : World} {g n : Nat} {f : Nat → Nat} (h : Row w g n f) {a : Addr} (ha : g ≠ a.block) (v : Value) : Row (w.setCell a v) g n f := World.rowIs.setOther h ha v
theorem rp_ret {K : Ending → World → Prop} {W : World} {tmps : Array Value} {g : Nat} {cs : Array Value} {ev : Value} (ht : tmps.getD 2 undef = .pointer (some ⟨g, 0, none⟩)) (he : tmps.getD 3 undef = ev)
  (hx : Blk W g 38 cs) (hn : cs.size = 5) (hk : K (.returned (.tuple #[.agg cs, ev])) W) : bodyPost Tryz.prog Tryz.f8 K .ret ⟨tmps, []⟩ W := by
 refine bodyPost_ret (v := .tuple #[.agg cs, ev]) ?_ rfl hk
 rw [results_cell_tmp rfl, ht, he]
 simp [asAddr, Result.andThen, hx.var _ _ Tryz.underlying38 rfl (by rw [hn]; kernel_rfl)]
def RPlanR (m : Md) (w : World) (e : Ending) (w' : World) : Prop := ∃ cs, e = .returned (.tuple #[.agg cs, .int .i64 (m.planC : Nat)]) ∧ PlanR m.planD w' cs ∧ Grow w w'
structure Pb (w : World) (gx ga gb n1 n2 : Nat) (cs : Array Value) (F G : Nat → Nat) : Prop where
 x : Blk w gx 38 cs
 a : Row w ga n1 F
 b : Row w gb n2 G
 ax : ga ≠ gx
 bx : gb ≠ gx
 ab : ga ≠ gb
theorem Pb.grow {w w' : World} {gx ga gb n1 n2 : Nat} {cs : Array Value} {F G : Nat → Nat} (h : Pb w gx ga gb n1 n2 cs F G) (hg : Grow w w') : Pb w' gx ga gb n1 n2 cs F G :=
 ⟨h.x.grow hg, h.a.grow hg, h.b.grow hg, h.ax, h.bx, h.ab⟩
theorem Pb.setA {w : World} {gx ga gb n1 n2 : Nat} {cs : Array Value} {F G : Nat → Nat} (h : Pb w gx ga gb n1 n2 cs F G) (k v : Nat) : Pb (w.setCell ⟨ga, k, none⟩ (.int .u64 (v : Int))) gx ga gb n1 n2 cs (put1 F k v) G :=
 ⟨h.x.cellset (fun e => h.ax e.symm) _, h.a.set1 k v, h.b.setOther (fun e => h.ab e.symm) _, h.ax, h.bx, h.ab⟩
theorem Pb.setB {w : World} {gx ga gb n1 n2 : Nat} {cs : Array Value} {F G : Nat → Nat} (h : Pb w gx ga gb n1 n2 cs F G) (k v : Nat) : Pb (w.setCell ⟨gb, k, none⟩ (.int .u64 (v : Int))) gx ga gb n1 n2 cs F (put1 G k v) :=
 ⟨h.x.cellset (fun e => h.bx e.symm) _, h.a.setOther (fun e => h.ab e) _, h.b.set1 k v, h.ax, h.bx, h.ab⟩
theorem Pb.setX {w : World} {gx ga gb n1 n2 : Nat} {cs : Array Value} {F G : Nat → Nat} (h : Pb w gx ga gb n1 n2 cs F G) (k : Nat) (v : Value) (hk : k < cs.size) : Pb (w.setCell ⟨gx, k, none⟩ v) gx ga gb n1 n2 (cs.set k v hk) F G :=
 ⟨h.x.putAt k v hk, h.a.setOther h.ax _, h.b.setOther h.bx _, h.ax, h.bx, h.ab⟩
def Butc (g k : Nat) (w W : World) : Prop := w.heap.size ≤ W.heap.size ∧ (∀ j, j < w.heap.size → j ≠ g → W.heap[j]? = w.heap[j]?) ∧ ∀ j, j ≠ k → g < w.heap.size → W.cell? ⟨g, j, none⟩ = w.cell? ⟨g, j, none⟩
theorem leap_but (g k : Nat) : Leap (Butc g k) :=
 ⟨fun _ => ⟨Nat.le_refl _, fun _ _ _ => rfl, fun _ _ _ => rfl⟩,
  fun _ _ _ h h' => ⟨Nat.le_trans h.1 h'.1, fun j hj hg => (h'.2.1 j (Nat.lt_of_lt_of_le hj h.1) hg).trans (h.2.1 j hj hg), fun j hj hg => (h'.2.2 j hj (Nat.lt_of_lt_of_le hg h.1)).trans (h.2.2 j hj hg)⟩⟩
theorem Row.but {w : World} {g n k : Nat} {f : Nat → Nat} (h : Row w g n f) (hk : k < n) (v : Value) : Butc g k w (w.setCell ⟨g, k, none⟩ v) := by
 obtain ⟨cs, h1, h2, h3⟩ := h
 have hb : Blk w g 28 cs := h1
 refine ⟨by simp, fun j hj hg => Deep.blk_setCell_other _ _ _ _ hg, fun j hj _ => ?_⟩
 rw [(hb.putAt k v (by omega)).at, hb.at, Array.getElem?_set]
 rw [if_neg (by omega)]
theorem Blk.but {w W : World} {g g' k : Nat} {t : TypeId} {cs : Array Value} (h : Blk w g t cs) (hb : Butc g' k w W) (hne : g ≠ g') : Blk W g t cs := by rw [Blk, hb.2.1 g h.lt hne]; exact h
theorem Row.but_cell {w W : World} {g n k i : Nat} {f : Nat → Nat} (h : Row w g n f) (hb : Butc g k w W) (hi : i < n) (hik : i ≠ k) : W.cell? ⟨g, i, none⟩ = some (.int .u64 (f i : Int)) := (hb.2.2 i hik h.lt).trans (World.rowIs.cell h hi)
theorem but_cell {w W : World} {g k b o : Nat} {v : Value} (hb : Butc g k w W) (hlt : b < w.heap.size) (hne : b ≠ g) (h : w.cell? ⟨b, o, none⟩ = some v) : W.cell? ⟨b, o, none⟩ = some v := (World.cell?_of_block (a := ⟨b, o, none⟩) (hb.2.1 b hlt hne)).trans h
theorem kept_cell {S : Nat → Prop} {w W : World} {b o : Nat} {v : Value} (hb : Kept S w W) (hlt : b < w.heap.size) (hS : S b) (h : w.cell? ⟨b, o, none⟩ = some v) : W.cell? ⟨b, o, none⟩ = some v := (World.cell?_of_block (a := ⟨b, o, none⟩) (hb.2 b hlt hS)).trans h
theorem wrap_mod (a b : Nat) : IntKind.u64.wrap ((a : Int) + (b : Int)) = (((a + b) % 18446744073709551616 : Nat) : Int) := by rw [IntKind.wrap_u64]; omega
theorem Pb.drewN {w : World} {gx ga gb n1 n2 : Nat} {cs : Array Value} {F G : Nat → Nat} (h : Pb w gx ga gb n1 n2 cs F G) (n : Nat) : Pb (w.drewN n) gx ga gb n1 n2 cs F G := h.grow (Grow.of_drewN _ _)
theorem Pb.drew {w : World} {gx ga gb n1 n2 : Nat} {cs : Array Value} {F G : Nat → Nat} (h : Pb w gx ga gb n1 n2 cs F G) : Pb w.drew gx ga gb n1 n2 cs F G := h.grow (Grow.of_drew _)
end Go.Proofs.YtfglppjilcaafaaGreatDoor
