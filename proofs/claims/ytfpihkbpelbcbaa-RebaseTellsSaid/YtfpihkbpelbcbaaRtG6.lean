/-
  Several texts in one: A model of the call's own in memory, whose bytes are turned; Slices of slices of bytes, of no bytes too, wherever they begin (at the end of their room too); A part of bytes that may be nil; The contract of bytes; The contract of model; The contracts of strip's small functions; What strip.
-/
import Derived.Test.YtfpihkbpelbcbaaRtG4
import Derived.Test.YtfpihkbpelbcbaaRtG5
import Derived.Laws.CopyRow
import Derived.Test.YtfpihkbpelbcbaaRtG1
import Derived.Test.YtfpihkbpelbcbaaRows
import Derived.Test.YtfpihkbpelbcbaaRtG2
import Derived.Test.YtfpihkbpelbcbaaRtG3
import Derived.Lib.Strings
import Derived.Laws.Bits64b
import Derived.Deep.OwnRows
namespace Go.Proofs.Ytfpihkbpelbcbaa
open Go.Lib (hid)
open Go.RowKit
set_option linter.unusedVariables false
theorem OB.copyTo {W : World} {base : Nat} {e : TypeId} {A : Option Addr} {n c : Nat} {l : List UInt8} (h : OB W base e A n c l) {B' : Nat} {A' : Option Addr} {m c' : Nat} {x : List UInt8} (hr : RB W B' A' m c' x) {p : Nat} (hp : p + m ≤ n) (hm : 0 < m) :
  ∃ g cur', A = some ⟨g, 0, none⟩ ∧ base ≤ g ∧ g < W.heap.size ∧ (∀ (P : Program) (dT sT ty elem : TypeId), P.underlying dT = some (.slice elem) → (P.info? elem).map (·.size) = some 1 →
   (Builtin.copy_ #[dT, sT] ty #[.slice (some ⟨g, p, none⟩) (n - p) (c - p), .slice A' m c']).run P W = .ok (.int .i64 (m : Int)) (W.setRow g cur')) ∧ OB (W.setRow g cur') base e A n c (putIn l p x) := by
 have hlen := h.len
 have hml := hr.len
 rcases h.2 with ⟨h0, h1⟩ | ⟨g, cap, cur, h0, hb, hh, h1, h2, h3, h4⟩
 ·omega
 ·injection h0 with e1 e2 e3
  subst e1; subst e3
  have hgl : g < W.heap.size := by
   rcases Nat.lt_or_ge g W.heap.size with h1 | h1
   ·exact h1
   ·rw [Array.getElem?_eq_none h1] at hh; cases hh
  obtain ⟨b, off, ea, hbb, hc⟩ := hr.pos hm
  subst ea
  have hsrc : ∀ j v, (x.map byt)[j]? = some v → W.cell? ((⟨b, off, none⟩ : Addr).add j) = some v := fun j v hj => by
   have hjl : j < x.length := by have := (List.getElem?_eq_some_iff.1 hj).1; simpa using this
   have e2 : (⟨b, off, none⟩ : Addr).add j = ⟨b, off + j, none⟩ := by unfold Addr.add; split <;> simp_all
   rw [e2, hc j hjl]
   simp [hjl, byt] at hj
   rw [← hj]
  rw [Nat.mul_one] at h3 h4
  have hcl : cur.toList.length = c := by simpa using h3
  refine ⟨g, (cur.toList.take p ++ x.map byt ++ cur.toList.drop (p + (x.map byt).length)).toArray, rfl, hb, hgl, fun P dT sT ty elem hu hs => ?_, ⟨by rw [List.length_map, putIn_len (by omega)]; omega, ?_⟩⟩
  ·have := run_copy_row P W dT sT ty elem g p (n - p) (c - p) ⟨b, off, none⟩ m c' cur e (x.map byt) hu hs hh (by rw [List.length_map, show m.min (n - p) = min m (n - p) from rfl, Nat.min_def]; split <;> omega) hsrc (by simp; omega) (byt_oneCell x)
   rw [this]
   congr 1
   simp [goInt, hml]
  ·refine .inr ⟨g, c, _, rfl, hb, setRow_heap W g cur _ e (0, 0) hh, h1, h2, ?_, ?_⟩
   ·simp; omega
   ·rw [Nat.mul_one]
    have hcn : cur.toList.take n = l.map byt := h4
    apply List.ext_getElem?
    intro j
    by_cases hj : j < n
    ·rw [List.getElem?_take_of_lt hj]
     show (cur.toList.take p ++ x.map byt ++ cur.toList.drop (p + (x.map byt).length))[j]? = _
     rw [List.getElem?_map, putIn_at (by omega) j]
     have hcj : cur.toList[j]? = (l[j]?).map byt := by rw [← List.getElem?_map, ← hcn, List.getElem?_take_of_lt hj]
     have htl : (cur.toList.take p).length = p := by rw [List.length_take]; omega
     by_cases h5 : j < p
     ·rw [if_neg (by omega), List.append_assoc, List.getElem?_append_left (by omega), List.getElem?_take_of_lt h5, hcj]
     ·rw [List.append_assoc, List.getElem?_append_right (by omega), htl]
      by_cases h6 : j < p + x.length
      ·rw [if_pos (by omega), List.getElem?_append_left (by simp; omega), List.getElem?_map]
      ·rw [if_neg (by omega), List.getElem?_append_right (by simp; omega), List.getElem?_drop, ← hcj]
       congr 1
       simp
       omega
    ·rw [List.getElem?_eq_none (by simp; omega), List.getElem?_eq_none (by rw [List.length_map, putIn_len (by omega)]; omega)]
abbrev Sl : Type := Option Addr × Nat × Nat
def sv (s : Sl) : Value := .slice s.1 s.2.1 s.2.2
def rowsOf {α : Type} (K : RK α) (L : List α) (S : Nat → Sl) : List (Array Value) := L.mapIdx fun j a => K.cs a (sv (S j))
def setS (S : Nat → Sl) (i : Nat) (s : Sl) : Nat → Sl := fun j => if j = i then s else S j
section
variable {α : Type} {K : RK α} {L : List α} {S : Nat → Sl}
theorem rowsOf_len : (rowsOf K L S).length = L.length := by simp [rowsOf]
theorem rowsOf_at {j : Nat} (h : j < (rowsOf K L S).length) (h' : j < L.length) : (rowsOf K L S)[j] = K.cs L[j] (sv (S j)) := by simp [rowsOf]
theorem rowsOf_set {i : Nat} {a : α} {s : Sl} : (rowsOf K L S).set i (K.cs a (sv s)) = rowsOf K (L.set i a) (setS S i s) := by
 refine List.ext_getElem (by simp [rowsOf]) fun j h1 h2 => ?_
 rw [List.getElem_set]
 simp only [rowsOf, List.getElem_mapIdx, List.getElem_set, setS]
 split
 ·rename_i e
  subst e
  simp
 ·rename_i e
  rw [if_neg (Ne.symm e)]
theorem setS_self {i : Nat} : setS S i (S i) = S := by
 funext j
 unfold setS
 split
 ·rename_i e
  rw [e]
 ·rfl
end
theorem ZO.putCell {w : World} {B : Nat} {e : TypeId} {z g k c : Nat} {R : List (Array Value)} {cur : Array Value} (h : ZO w B e z (some ⟨g, 0, none⟩) k c R) (hb : Blk w g e cur) {i p : Nat} (hi : i < R.length) (hp : p < z) (v : Value) :
  ZO (w.setCell ⟨g, i * z + p, none⟩ v) B e z (some ⟨g, 0, none⟩) k c (R.set i (R[i].setIfInBounds p v)) := by
 have hz : 0 < z := by omega
 have hsi := h.2.2 _ (List.getElem_mem hi)
 have hsizes : ∀ x ∈ R.set i (R[i].setIfInBounds p v), x.size = z := fun x hx => by
  rcases List.mem_or_eq_of_mem_set hx with h1 | h1
  ·exact h.2.2 x h1
  ·rw [h1]; simpa using hsi
 have hflat : ∀ l : List (Array Value), (∀ r ∈ l, r.size = z) → (l.flatMap Array.toList).length = l.length * z := by
  intro l
  induction l with
  | nil => intro _; simp
  | cons r l ih =>
   intro h
   rw [List.flatMap_cons, List.length_append, ih fun x hx => h x (List.mem_cons_of_mem _ hx), List.length_cons, Nat.succ_mul]
   have := h r (List.mem_cons_self ..)
   simp [this, Nat.add_comm]
 have hset : (R.set i (R[i].setIfInBounds p v)).length = R.length := List.length_set
 rw [setCell_eq_setRow w g (i * z + p) cur e (0, 0) v hb]
 refine ⟨⟨by rw [hflat _ hsizes, hset, h.2.1], ?_⟩, by rw [hset]; exact h.2.1, hsizes⟩
 rcases h.1.2 with ⟨hv, _⟩ | ⟨g', cap, cur0, hv, hg', hh, p1, p2, p3, p4⟩
 ·cases hv
 ·injection hv with e1 _ e2
  injection e1 with e1
  injection e1 with e1
  subst e1; subst e2
  rw [hb] at hh
  injection hh with hh
  injection hh with hh
  subst hh
  refine .inr ⟨g, c, _, rfl, hg', hb.set _, p1, p2, by simpa using p3, ?_⟩
  have hik : i + 1 ≤ k := by have := h.2.1; omega
  have hle : (i + 1) * z ≤ k * z := Nat.mul_le_mul_right _ hik
  rw [Nat.succ_mul] at hle
  have hle2 : k * z ≤ c * z := Nat.mul_le_mul_right _ p1
  refine List.ext_getElem? fun j => ?_
  by_cases hj : j < k * z
  ·have hq : j / z < R.length := by rw [← h.2.1]; exact Nat.div_lt_of_lt_mul (by rw [Nat.mul_comm]; exact hj)
   have hm : j % z < z := Nat.mod_lt _ hz
   have e4 := flat_at (R.set i (R[i].setIfInBounds p v)) hsizes (j / z) (by rw [hset]; exact hq) (j % z) hm
   have e5 := flat_at R h.2.2 (j / z) hq (j % z) hm
   rw [Nat.div_add_mod' j z] at e4 e5
   rw [List.getElem?_take_of_lt hj, Array.getElem?_toList, e4, List.getElem_set, Array.getElem?_setIfInBounds]
   rw [← p4, List.getElem?_take_of_lt hj, Array.getElem?_toList] at e5
   by_cases hqi : i = j / z
   ·rw [if_pos hqi, Array.getElem?_setIfInBounds]
    have hji : j = i * z + j % z := by rw [hqi]; exact (Nat.div_add_mod' j z).symm
    by_cases hps : p = j % z
    ·rw [if_pos (by omega), if_pos (by omega), if_pos hps, if_pos (by rw [hsi]; omega)]
    ·rw [if_neg (by omega), if_neg hps, e5]
     congr 1
     simp only [hqi]
   ·rw [if_neg hqi, ← e5, if_neg]
    intro he
    apply hqi
    rw [← he, Nat.mul_comm, Nat.mul_add_div hz, Nat.div_eq_of_lt hp, Nat.add_zero]
  ·rw [List.getElem?_eq_none (by rw [List.length_take]; omega), List.getElem?_eq_none (by rw [hflat _ hsizes, hset, ← h.2.1]; omega)]
theorem ZO.openAt {w : World} {B : Nat} {e : TypeId} {z k c : Nat} {A : Option Addr} {R : List (Array Value)} (h : ZO w B e z A k c R) {i : Nat} (hi : i < R.length) : ∃ g cur, A = some ⟨g, 0, none⟩ ∧ Blk w g e cur ∧ B ≤ g ∧ (i + 1) * z ≤ cur.size ∧ ∀ s, s < z → cur[i * z + s]? = R[i][s]? := by
 rcases h.1.2 with ⟨hv, hn⟩ | ⟨g', cap, cur, hv, hg', hh, p1, p2, p3, p4⟩
 ·have := h.2.1
  omega
 ·injection hv with e2 _ e3
  subst e2; subst e3
  have hik : i + 1 ≤ k := by have := h.2.1; omega
  have hle : (i + 1) * z ≤ k * z := Nat.mul_le_mul_right _ hik
  refine ⟨g', cur, rfl, hh, hg', ?_, fun s hs => ?_⟩
  ·rw [p3]
   exact Nat.le_trans hle (Nat.mul_le_mul_right _ p1)
  ·have e5 := flat_at R h.2.2 i hi s hs
   rw [Nat.succ_mul] at hle
   rw [← p4, List.getElem?_take_of_lt (by omega), Array.getElem?_toList] at e5
   exact e5
structure GH {α : Type} (K : RK α) (w : World) (B : Nat) (e : TypeId) (A : Option Addr) (k c : Nat) (L : List α) (S : Nat → Sl) (q : Nat) : Prop where
 row : ZO w B e K.z A k c (rowsOf K L S)
 own : ∀ j (h : j < L.length), j < q → OB w B 5 (S j).1 (S j).2.1 (S j).2.2 (K.by_ L[j])
 old : ∀ j (h : j < L.length), q ≤ j → RB w B (S j).1 (S j).2.1 (S j).2.2 (K.by_ L[j])
def Sep (S : Nat → Sl) (q : Nat) : Prop := ∀ i j, i < q → j < q → i ≠ j → own (S i).1 = none ∨ own (S i).1 ≠ own (S j).1
def Off (S : Nat → Sl) (q g : Nat) : Prop := ∀ i, i < q → own (S i).1 ≠ some g
section
variable {α : Type} {K : RK α} {w w' : World} {B : Nat} {e : TypeId} {A : Option Addr} {k c : Nat} {L : List α} {S : Nat → Sl} {q : Nat}
theorem GH.len (h : GH K w B e A k c L S q) : k = L.length := by rw [h.row.2.1, rowsOf_len]
theorem GH.keep (h : GH K w B e A k c L S q) (hg : Grow w w') (hB : B ≤ w.heap.size) : GH K w' B e A k c L S q :=
 ⟨h.row.keep hg, fun j hj h1 => (h.own j hj h1).keep hg, fun j hj h1 => (h.old j hj h1).belowAt hg hB⟩
theorem GH.rb (h : GH K w B e A k c L S q) (hB : B ≤ w.heap.size) {j : Nat} (hj : j < L.length) : RB w w.heap.size (S j).1 (S j).2.1 (S j).2.2 (K.by_ L[j]) := by
 rcases Nat.lt_or_ge j q with h1 | h1
 ·exact (h.own j hj h1).rb
 ·exact (h.old j hj h1).more hB
theorem GH.zr (h : GH K w B e A k c L S q) (hB : B ≤ w.heap.size) : ZR K w w.heap.size A k c L :=
 ⟨rowsOf K L S, h.row.zs, rowsOf_len, fun j h1 h2 => ⟨_, _, _, rowsOf_at h1 h2, h.rb hB h2⟩⟩
theorem GH.past {g : Nat} (h : GH K w B e A k c L S q) (hg : w.grownBy w' (some g)) (hA : Go.Proofs.Ytfpihkbpelbcbaa.own A ≠ some g) (ho : Off S q g) (hB : B ≤ g) (hs : B ≤ w.heap.size) : GH K w' B e A k c L S q :=
 ⟨h.row.past hg (.inr hA), fun j hj h1 => (h.own j hj h1).passed hg (.inr (ho j h1)), fun j hj h1 => (h.old j hj h1).belowAt ((Below.refl B w).grown hg hs fun k hk => by injection hk with hk; omega) (Nat.le_refl _)⟩
theorem GH.cell {g i p : Nat} {cur : Array Value} {v : Value} {a : α} {s : Sl} (h : GH K w B e (some ⟨g, 0, none⟩) k c L S q) (hb : Blk w g e cur) (hu : 5 ≠ e) (hB : B ≤ g) (hs : B ≤ w.heap.size) (hi : i < L.length) (hp : p < K.z)
  (hv : (K.cs L[i] (sv (S i))).setIfInBounds p v = K.cs a (sv s)) {q' : Nat} (hq : q ≤ q') (hq' : ∀ j, q ≤ j → j < q' → j = i)
  (ho : i < q' → OB w B 5 s.1 s.2.1 s.2.2 (K.by_ a)) (hold : q' ≤ i → RB w B s.1 s.2.1 s.2.2 (K.by_ a)) : GH K (w.setCell ⟨g, i * K.z + p, none⟩ v) B e (some ⟨g, 0, none⟩) k c (L.set i a) (setS S i s) q' := by
 have hiR : i < (rowsOf K L S).length := by rw [rowsOf_len]; exact hi
 have hgr : w.grownBy (w.setCell ⟨g, i * K.z + p, none⟩ v) (some g) := ⟨rfl, rfl, rfl, by simp, fun k _ hk => Deep.blk_setCell_other _ _ _ _ (fun e => hk (by rw [e]))⟩
 have hbl : Below B w (w.setCell ⟨g, i * K.z + p, none⟩ v) := (Below.refl B w).grown hgr hs fun k hk => by injection hk with hk; omega
 have hob : ∀ {A n c l}, OB w B 5 A n c l → OB (w.setCell ⟨g, i * K.z + p, none⟩ v) B 5 A n c l := fun {A n c l} ho => ho.passed hgr (by
  have := ho.kindNe h.row hu
  exact this)
 refine ⟨?_, fun j hj h1 => ?_, fun j hj h1 => ?_⟩
 ·have := h.row.putCell hb hiR hp v
  rw [rowsOf_at hiR hi, hv, rowsOf_set] at this
  exact this
 ·by_cases hji : j = i
  ·subst hji
   simp only [setS, if_true, List.getElem_set_self]
   exact hob (ho h1)
  ·have hjL : j < L.length := by simpa using hj
   have hjq : j < q := by
    rcases Nat.lt_or_ge j q with h2 | h2
    ·exact h2
    ·exact absurd (hq' j h2 h1) hji
   simp only [setS, if_neg hji, List.getElem_set_ne (Ne.symm hji)]
   exact hob (h.own j hjL hjq)
 ·by_cases hji : j = i
  ·subst hji
   simp only [setS, if_true, List.getElem_set_self]
   exact (hold h1).belowAt hbl (Nat.le_refl _)
  ·have hjL : j < L.length := by simpa using hj
   simp only [setS, if_neg hji, List.getElem_set_ne (Ne.symm hji)]
   exact (h.old j hjL (by omega)).belowAt hbl (Nat.le_refl _)
theorem GH.bytes {g i : Nat} {a : α} (h : GH K w B e A k c L S q) (hsep : Sep S q) (hu : 5 ≠ e) (hB : B ≤ g) (hs : B ≤ w.heap.size) (hi : i < L.length) (hiq : i < q) (hg : w.grownBy w' (some g)) (hS : (S i).1 = some ⟨g, 0, none⟩)
  (hv : ∀ v, K.cs a v = K.cs L[i] v) (ho : OB w' B 5 (S i).1 (S i).2.1 (S i).2.2 (K.by_ a)) : GH K w' B e A k c (L.set i a) S q := by
 have hown : Go.Proofs.Ytfpihkbpelbcbaa.own (S i).1 = some g := by rw [hS]; rfl
 have hbl : Below B w w' := (Below.refl B w).grown hg hs fun k hk => by injection hk with hk; omega
 refine ⟨?_, fun j hj h1 => ?_, fun j hj h1 => ?_⟩
 ·have e1 : rowsOf K (L.set i a) S = rowsOf K L S := by
   refine List.ext_getElem (by simp [rowsOf]) fun j h1 h2 => ?_
   simp only [rowsOf, List.getElem_mapIdx, List.getElem_set]
   split
   ·rename_i e
    subst e
    exact hv _
   ·rfl
  rw [e1]
  refine h.row.past hg ?_
  rcases (h.own i hi hiq).kindNe h.row hu with h2 | h2
  ·rw [hown] at h2; cases h2
  ·rw [hown] at h2
   exact .inr (Ne.symm h2)
 ·by_cases hji : j = i
  ·subst hji
   simp only [List.getElem_set_self]
   exact ho
  ·have hjL : j < L.length := by simpa using hj
   simp only [List.getElem_set_ne (Ne.symm hji)]
   refine (h.own j hjL h1).passed hg ?_
   have := hsep j i h1 hiq hji
   rwa [hown] at this
 ·have hji : j ≠ i := by omega
  have hjL : j < L.length := by simpa using hj
  simp only [List.getElem_set_ne (Ne.symm hji)]
  exact (h.old j hjL h1).belowAt hbl (Nat.le_refl _)
end
theorem Sep.step {S : Nat → Sl} {q : Nat} {s : Sl} (h : Sep S q) (hn : ∀ g, own s.1 = some g → Off S q g) : Sep (setS S q s) (q + 1) := fun i j hi hj hij => by
 unfold setS
 by_cases h1 : i = q
 ·by_cases h2 : j = q
  ·omega
  ·rw [if_pos h1, if_neg h2]
   rcases ho : own s.1 with _ | g
   ·exact .inl rfl
   ·exact .inr fun he => hn g ho j (by omega) he.symm
 ·rw [if_neg h1]
  by_cases h2 : j = q
  ·rw [if_pos h2]
   rcases ho : own (S i).1 with _ | g
   ·exact .inl rfl
   ·exact .inr fun he => hn g he.symm i (by omega) ho
  ·rw [if_neg h2]
   exact h i j (by omega) (by omega) hij
theorem Off.step {S : Nat → Sl} {q g : Nat} {s : Sl} (h : Off S q g) (hn : own s.1 ≠ some g) : Off (setS S q s) (q + 1) g := fun i hi => by
 unfold setS
 split
 ·exact hn
 ·exact h i (by omega)
theorem Off.zero (S : Nat → Sl) (g : Nat) : Off S 0 g := fun i h => absurd h (by omega)
theorem Sep.zero (S : Nat → Sl) : Sep S 0 := fun i j h => absurd h (by omega)
def cutA (a : Addr) (c p : Nat) : Addr := if c = p then a else a.add p
section
variable {w : World} {B n c : Nat} {a : Addr} {l : List UInt8}
theorem RB.cut (h : RB w B (some a) n c l) {p m : Nat} (hp : p + m ≤ n) : RB w B (some (cutA a c p)) m (c - p) ((l.drop p).take m) := by
 have hl := h.len
 have hcap := h.cap
 have hmax := h.max
 by_cases h0 : 0 < m
 ·obtain ⟨b, off, e, -, -⟩ := h.pos (by omega)
  injection e with e
  subst e
  have := h.sub hp h0
  have e2 : cutA ⟨b, off, none⟩ c p = ⟨b, off + p, none⟩ := by
   unfold cutA Addr.add
   rw [if_neg (by omega)]
   split <;> simp_all
  rw [e2]
  exact this
 ·have : m = 0 := by omega
  subst this
  exact ⟨by simp, by omega, by omega, fun h => absurd h (by omega)⟩
end
theorem run_cut_lh {P : Program} (t : TypeId) (ht : P.underlying t = some (.slice (P.elem t))) (hz : ∀ W, (sizeOf (P.elem t)).run P W = .ok 1 W) (a : Addr) (n c : Nat) (kl kh : IntKind) (p q : Nat) (hpq : p ≤ q) (hq : q ≤ c) (W : World) :
  (Instr.slice t (.slice (some a) n c) (some (.int kl (p : Int))) (some (.int kh (q : Int))) none).run P W = .ok (.slice (some (cutA a c p)) (q - p) (c - p)) W := by
 rw [run_slice_lh W t (some a) n c ht kl kh p q (by omega) (by omega) (by omega), hz]
 simp only [Result.andThen, sliced, Int.toNat_natCast, Nat.mul_one, Option.map_some]
 unfold cutA
 split <;> rfl
theorem run_cut_l {P : Program} (t : TypeId) (ht : P.underlying t = some (.slice (P.elem t))) (hz : ∀ W, (sizeOf (P.elem t)).run P W = .ok 1 W) (a : Addr) (n c : Nat) (kl : IntKind) (p : Nat) (hp : p ≤ n) (W : World) :
  (Instr.slice t (.slice (some a) n c) (some (.int kl (p : Int))) none none).run P W = .ok (.slice (some (cutA a c p)) (n - p) (c - p)) W := by
 rw [run_slice_l W t (some a) n c ht kl p (by omega) (by omega), hz]
 simp only [Result.andThen, sliced, Int.toNat_natCast, Nat.mul_one, Option.map_some]
 unfold cutA
 split <;> rfl
theorem cut_any {w : World} {B n c : Nat} {A : Option Addr} {l : List UInt8} (h : RB w B A n c l) {p m : Nat} (hp : p + m ≤ n) :
  ∃ A' c', (∀ W, (Instr.slice 44 (.slice A n c) (some (.int .u64 (p : Int))) (some (.int .u64 ((p : Int) + (m : Int)))) none).run Try.prog W = .ok (.slice A' m c') W) ∧ RB w B A' m c' ((l.drop p).take m) := by
 have hcap := h.cap
 have hmax := h.max
 have hz8 : ∀ W, (sizeOf (Try.prog.elem 44)).run Try.prog W = .ok 1 W := fun W => by kernel_rfl
 rcases A with _ | a
 ·have hn : n = 0 := by
   rcases Nat.eq_zero_or_pos n with h0 | h0
   ·exact h0
   ·obtain ⟨_, _, e, _⟩ := h.pos h0
    cases e
  subst hn
  obtain rfl : p = 0 := by omega
  obtain rfl : m = 0 := by omega
  refine ⟨none, c, fun W => ?_, by simp, Nat.zero_le _, hmax, fun h => absurd h (by omega)⟩
  have := run_slice_lh (P := Try.prog) W 44 none 0 c (by kernel_rfl) .u64 .u64 0 0 (by omega) (by omega) (by omega)
  rw [hz8] at this
  simpa [Result.andThen, sliced] using this
 ·refine ⟨some (cutA a c p), c - p, fun W => ?_, h.cut hp⟩
  have := run_cut_lh (P := Try.prog) 44 (by kernel_rfl) hz8 a n c .u64 .u64 p (p + m) (by omega) (by omega) W
  rw [show p + m - p = m by omega] at this
  simpa using this
set_option maxRecDepth 100000
set_option maxHeartbeats 400000 in
theorem clone_some (a : Addr) (n c : Nat) (l : List UInt8) (B : Nat) (w : World) (h : RB w B (some a) n c l) (hB : B ≤ w.heap.size) (hn : n ≤ 140737488355328) :
  Calls Try.prog 41 #[.slice (some a) n c] w fun e w' => ∃ A2 c2, e = .returned (.slice A2 n c2) ∧ OB w' w.heap.size 5 A2 n c2 l ∧ Grow w w' := by
 have HR := hid h
 have HL := hid h.len
 have hc := h.cap
 have hm := h.max
 unfold maxLen at hm
 clear h
 have hz : n ≤ 140737488355328 := hn
 have HO := hid (OB.of_blk (base := w.heap.size) (l := []) (Blk.new w 5 #[]) (Nat.le_refl _) (by decide))
 have hg1 := Grow.of_alloc w (.cells #[] 5)
 have HR1 := hid (HR.out.belowAt hg1 hB)
 have HG1 := hid hg1
 have HS1 := hid hg1.size
 clear hg1 HR
 have heq : ∀ w, (binOp .eql 44 (.slice (some a) n c) (.slice none 0 0)).run Try.prog w = .ok (.bool false) w := fun w => by rfl
 go_enter Try.func41, Try.ntmps41
 go_wp2_with (refine wpList_appendB (w.alloc (.cells #[] 5)) rfl (.tmp 5) (.tmp 6) 44 rfl w.heap.size 5 Try.underlying44 (by kernel_rfl) _ _ _ _ rfl HO.out B _ n c l rfl HR1.out (by simpa using hz) HS1.out ?_; intro A5 c5 w9 ho9 hb9; refine Hid.out ?_)
 have HO9 := hid ho9
 have HB9 : Hid (Grow w w9) := HG1.out.trans' hb9
 clear ho9 hb9 HO HR1 HG1 HS1
 refine hid ?_
 go_wp2
 go_ret
 have h9 := HO9.out
 rw [Nat.zero_add, List.nil_append] at h9
 exact ⟨A5, c5, rfl, h9, HB9.out⟩
def NewB (l : List UInt8) (w : World) (e : Ending) (w' : World) : Prop := ∃ A2 c2, e = .returned (.slice A2 l.length c2) ∧ OB w' w.heap.size 5 A2 l.length c2 l ∧ Grow w w'
theorem NewB.nil (w w' : World) (h : Grow w w') : NewB [] w (.returned (.slice none 0 0)) w' := ⟨none, 0, rfl, OB.nil, h⟩
theorem NewB.from {l : List UInt8} {w0 w w' : World} {e : Ending} (h : NewB l w e w') (hg : Grow w0 w) : NewB l w0 e w' := by
 obtain ⟨A2, c2, h1, h2, h3⟩ := h
 exact ⟨A2, c2, h1, h2.mono hg.size, hg.trans h3⟩
theorem clone_any (A : Option Addr) (n c : Nat) (l : List UInt8) (B : Nat) (w : World) (h : RB w B A n c l) (hB : B ≤ w.heap.size) (hn : n ≤ 140737488355328) :
  Calls Try.prog 41 #[.slice A n c] w (NewB l w) := by
 rcases A with _ | a
 ·have hl : l = [] := by
   rcases Nat.eq_zero_or_pos n with h0 | h0
   ·exact List.eq_nil_of_length_eq_zero (by rw [← h.len]; exact h0)
   ·obtain ⟨_, _, e, _⟩ := h.pos h0
    cases e
  subst hl
  clear h
  have heq : ∀ w, (binOp .eql 44 (.slice none n c) (.slice none 0 0)).run Try.prog w = .ok (.bool true) w := fun w => by rfl
  go_enter Try.func41, Try.ntmps41
  go_wp2
  go_ret
  exact NewB.nil _ _ (Grow.refl _)
 ·refine (clone_some a n c l B w h hB hn).mono ?_
  rintro e w' ⟨A2, c2, rfl, h1, h2⟩
  obtain rfl := h.len
  exact ⟨A2, c2, rfl, h1, h2⟩
theorem bytes_own {m : Md} {p : Pl} (h : p.inn = -1) : m.bytes p = p.own := by unfold Md.bytes; rw [if_pos h]
theorem bytes_in {m : Md} {p : Pl} (h : p.inn ≠ -1) : m.bytes p = if isSegN m.segs.length p.inn && p.within (m.seg p.inn).pl.own.length then (((m.seg p.inn).pl.own).drop p.off).take p.size else [] := by unfold Md.bytes; rw [if_neg h]
set_option maxHeartbeats 1000000 in
theorem mBytes_any (m : Md) (A1 A2 : Option Addr) (n1 c1 n2 c2 : Nat) (p : Pl) (ok : p.Ok) (A : Option Addr) (n c : Nat) (w : World) (g1 : ZR sgK w w.heap.size A1 n1 c1 m.segs) (g : RB w w.heap.size A n c p.own) (hb : (m.bytes p).length ≤ 140737488355328) :
  Calls Try.prog 64 #[.agg (mdC m (.slice A1 n1 c1) (.slice A2 n2 c2)), .agg (plC p (.slice A n c))] w (NewB (m.bytes p) w) := by
 have hpo := ok.off
 have hps := ok.size
 obtain ⟨x0, x1, x2, x3, x4, x5, x6, x7, x9, x10, hC⟩ := mdC_cells m (.slice A1 n1 c1) (.slice A2 n2 c2)
 by_cases h0 : p.inn = -1
 ·rw [bytes_own h0] at hb ⊢
  have HCl := hid (fun w' (hg : Grow w w') => clone_any A n c p.own _ w' (g.grow hg) (Nat.le_refl _) (by rw [g.len]; exact hb))
  rw [hC]
  unfold plC
  rw [h0]
  generalize p.own = l at HCl ⊢
  generalize p.off = po
  generalize p.size = ps
  clear hC hb g g1 h0 hpo hps ok
  go_enter Try.func64, Try.ntmps64
  go_wp2_with fail
  generalize hW : World.alloc _ _ = W0
  obtain ⟨b1, b2, hg0⟩ := blk2 hW
  clear hW
  have HG0 := hid hg0
  obtain ⟨y0, y1, y2, y3⟩ := b2.c4
  clear b1 b2 hg0
  go_wp2_with fail
  clear y0 y1 y2 y3
  refine (HCl.out _ HG0.out).mono ?_
  rintro e w1 hn
  have HN := hid (hn.from HG0.out)
  obtain ⟨A5, c5, rfl, -, -⟩ := hn
  go_wp2
  go_ret
  exact HN.out
 ·have hl := g1.len
  rw [bytes_in h0, ← hl] at hb ⊢
  have hI := mIsSeg_any m A1 A2 n1 c1 n2 c2 p.inn
  rw [hC] at hI ⊢
  clear hC
  cases hs : isSegN n1 p.inn with
  | false =>
   rw [hs] at hI
   have HI := hid hI
   have Hi : (p.inn == -1) = false := by simpa using h0
   rw [hs] at hb
   clear hI hs h0 hl g g1 hb hpo hps ok
   simp only [Bool.false_and]
   unfold plC
   generalize p.inn = i at HI Hi ⊢
   generalize p.off = po
   generalize p.size = ps
   go_enter Try.func64, Try.ntmps64
   go_wp2_with fail
   generalize hW : World.alloc _ _ = W0
   obtain ⟨b1, b2, hg0⟩ := blk2 hW
   clear hW
   have HG0 := hid hg0
   obtain ⟨y0, y1, y2, y3⟩ := b2.c4
   obtain ⟨v0, v1, v2, v3, v4, v5, v6, v7, v8, v9, v10⟩ := b1.c11
   clear b1 b2 hg0
   go_wp2_with fail
   clear y0 y1 y2 y3 v0 v1 v2 v3 v4 v5 v6 v7 v8 v9 v10
   refine (HI.out _).mono ?_
   rintro e w1 ⟨rfl, hg1⟩
   have HG1 : Hid (Grow w w1) := HG0.out.trans hg1
   clear hg1
   go_wp2
   go_ret
   exact NewB.nil _ _ HG1.out
  | true =>
   obtain ⟨k, hk, hkl⟩ := isSegN_true hs
   rw [hl] at hkl
   rw [hs] at hI
   rw [hk] at hI
   rw [hs, hk, m.seg_nat k hkl, Bool.true_and] at hb
   rw [hk, m.seg_nat k hkl, Bool.true_and]
   obtain ⟨b, off, rfl, hbb⟩ := g1.pos (by rw [g1.len]; omega)
   obtain ⟨Ak, nk, ck, -, hcell, gk⟩ := g1.at hkl
   have T9 : Hid (w.cell? ⟨b, off + k * 10 + 9, none⟩ = some (.slice Ak nk ck)) := hid (hcell 9 _ rfl)
   have hnk : m.segs[k].pl.own.length = nk := gk.len.symm
   have hnkm : nk ≤ maxLen := Nat.le_trans gk.cap gk.max
   have HWi := hid (fun w => mIsWithin_any p (.slice A n c) Ak nk ck w hnkm)
   have hkn : k < n1 := by rw [g1.len]; exact hkl
   have HBb := hid (show b < w.heap.size from hbb)
   have hn1m := g1.cap
   have hn1m' := g1.max
   unfold maxLen at hn1m' hnkm
   have gk' : RB w w.heap.size Ak nk ck m.segs[k].pl.own := gk
   rw [hnk] at hb ⊢
   have HI := hid hI
   obtain ⟨RS, hRS⟩ : ∃ RS, RS = if p.within nk = true then (m.segs[k].pl.own.drop p.off).take p.size else [] := ⟨_, rfl⟩
   rw [← hRS] at hb ⊢
   have E := hid (show p.within nk = decide (p.off + p.size ≤ nk) from rfl)
   unfold plC at HWi ⊢
   rw [hk] at HWi ⊢
   have e0 : ((k : Int) == -1) = false := by simp
   generalize p.within nk = V at E HWi hRS
   generalize p.off = po at HWi E hpo hRS ⊢
   generalize p.size = ps at E HWi hps hRS ⊢
   clear hcell
   generalize m.segs[k].pl.own = L at hRS gk gk' hnk
   have HRS := hid hRS
   clear hRS
   have GK := hid gk'
   clear hI hs gk gk' hnk hk h0 g1 g hbb hl ok
   go_enter Try.func64, Try.ntmps64
   go_wp2_with fail
   generalize hW : World.alloc _ _ = W0
   obtain ⟨b1, b2, hg0⟩ := blk2 hW
   clear hW
   have HB1 := hid b1
   have HB20 := hid b2
   have HG0 := hid hg0
   obtain ⟨y0, y1, y2, y3⟩ := b2.c4
   obtain ⟨v0, v1, v2, v3, v4, v5, v6, v7, v8, v9, v10⟩ := b1.c11
   clear b1 b2 hg0
   go_wp2_with fail
   clear y0 y1 y2 y3 v0 v1 v2 v3 v4 v5 v6 v7 v8 v9 v10
   refine (HI.out _).mono ?_
   rintro e w1 ⟨rfl, hg1⟩
   have HG1 : Hid (Grow w w1) := HG0.out.trans hg1
   have HB2 := hid (HB20.out.grow hg1)
   have y8 : w1.cell? ⟨w.heap.size, 8, none⟩ = some (.slice (some ⟨b, off, none⟩) n1 c1) := (HB1.out.grow hg1).at 8
   obtain ⟨y0, y1, y2, y3⟩ := HB2.out.c4
   have t9 : w1.cell? ⟨b, off + k * 10 + 9, none⟩ = some (.slice Ak nk ck) := (Below.cell HG1.out HBb.out).trans T9.out
   clear hg1 HG0 HB20 HB1 HI
   go_wp2_with fail
   clear y0 y1 y2 y3 y8 t9
   refine (HWi.out _).mono ?_
   rintro e w2 ⟨rfl, hg2⟩
   have HG2 : Hid (Grow w w2) := HG1.out.trans hg2
   obtain ⟨y0, y1, y2, y3⟩ := (HB2.out.grow hg2).c4
   clear hg2 HWi
   cases V with
   | false =>
    clear y0 y1 y2 y3
    go_wp2
    go_ret
    rw [HRS.out]
    exact NewB.nil _ _ HG2.out
   | true =>
    have hle : po + ps ≤ nk := by have := E.out; simpa using this.symm
    obtain ⟨A', c', hrun, hr⟩ := cut_any GK.out hle
    have e1 : (L.drop po).take ps = RS := HRS.out.symm
    rw [e1] at hr
    have HR := hid hr
    have HCl := hid (fun w' (hg : Grow w w') => clone_any A' ps c' _ _ w' (HR.out.grow hg) (Nat.le_refl _) (by rw [HR.out.len]; exact hb))
    have z1 : IntKind.u64.wrap ((po : Int) + (ps : Int)) = (po : Int) + (ps : Int) := by rw [IntKind.wrap_u64]; omega
    clear hr hle hb hnkm hpo hps E GK e1 HRS
    go_wp2_with fail
    clear y0 y1 y2 y3
    refine (HCl.out _ HG2.out).mono ?_
    rintro e w3 hn
    have HN := hid (hn.from HG2.out)
    obtain ⟨A5, c5, rfl, -, -⟩ := hn
    go_wp2
    go_ret
    exact HN.out
set_option maxRecDepth 100000
set_option linter.unusedVariables false
theorem and_two (F : Nat) (h : F < 18446744073709551616) : bits BinOp.and IntKind.u64 (F : Int) 2 = ((2 * (F / 2 % 2) : Nat) : Int) := by
 have h1 := bits_and_u64_nat F 2 h (by omega)
 have h2 : F &&& 2 = 2 * (F / 2 % 2) := by
  have h3 := Nat.and_div_two (a := F) (b := 2)
  have h4 := Nat.and_mod_two_pow (a := F) (b := 2) (n := 1)
  have h5 : F / 2 &&& 1 = F / 2 % 2 := Nat.and_one_is_mod _
  simp only [Nat.reducePow, Nat.reduceDiv, Nat.reduceMod, Nat.and_zero, h5] at h3 h4
  omega
 rw [← h2]
 exact h1
set_option linter.unusedVariables false
def KeepC (g j : Nat) (w W : World) : Prop := Kept (fun k => k ≠ g) w W ∧ W.cell? ⟨g, j, none⟩ = w.cell? ⟨g, j, none⟩
theorem leap_keepC (g j : Nat) : Leap (KeepC g j) := ⟨fun w => ⟨(leap_kept _).refl w, rfl⟩, fun a b c h k => ⟨(leap_kept _).trans a b c h.1 k.1, k.2.trans h.2⟩⟩
theorem KeepC.of_grow {g j : Nat} {w W : World} (h : Grow w W) (hg : g < w.heap.size) : KeepC g j w W := ⟨Kept.of_grow h, Below.cell h hg⟩
theorem KeepC.of_set {g j i : Nat} {w : World} (hne : i ≠ j) (v : Value) : KeepC g j w (w.setCell ⟨g, i, none⟩ v) :=
 ⟨⟨by simp, fun k _ hk => Deep.blk_setCell_other _ _ _ _ hk⟩, World.cell?_setCell_other _ _ _ _ (by intro h; injection h with _ h; first | exact hne h | exact hne h.symm)⟩
theorem grown_set' (w : World) (a : Addr) (v : Value) : w.grownBy (w.setCell a v) (some a.block) := ⟨rfl, rfl, rfl, by simp, fun k _ hk => Deep.blk_setCell_other _ _ _ _ (fun e => hk (by rw [e]))⟩
theorem Blk.apart {w : World} {g g' : Nat} {t t' : TypeId} {cs cs' : Array Value} (h : Blk w g t cs) (h' : Blk w g' t' cs') (ht : t ≠ t') : g ≠ g' := fun e => by
 subst e
 unfold Blk at h h'
 rw [h] at h'
 injection h' with h'
 injection h' with _ h'
 exact ht h'
section
variable {w W W' : World} {gm gr gg : Nat} {mc zc : Array Value} {n1 n2 : Nat} {A3 : Option Addr} {c3 : Nat} {A4 : Option Addr} {c4 : Nat} {G : Nat → Bool} {L1 : List Sg} {L2 : List Se}
end
end Go.Proofs.Ytfpihkbpelbcbaa
