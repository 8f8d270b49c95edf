/-
  Several texts in one: The file of TopFinds, as plain data; What is told of any bytes as a program header, in plain words; What is told of any bytes as a section header, in plain words; A file's model, as plain data; Rows of the call's own, of several kinds; Images, as plain data.
-/
import Derived.Test.YtfbimboemahhhaaGreatDoorTfG14
import Derived.Test.YtfbimboemahhhaaGreatDoorTfG3
import Derived.Test.YtfbimboemahhhaaGreatDoorTfG21
import Derived.Test.YtfbimboemahhhaaGreatDoorTfG13
import Derived.Test.YtfbimboemahhhaaGreatDoorTfG10
import Derived.Test.YtfbimboemahhhaaGreatDoorTfG5
import Derived.Test.YtfbimboemahhhaaGreatDoorTfG2
namespace Go.Proofs.YtfbimboemahhhaaGreatDoor
def seT (ty : Nat) (o : Bs) : Se := ⟨0, ty, 2, 0, o.length, 1, 0, 0, 0, ⟨-1, 0, o.length, o⟩⟩
def mdTf (wide big : Bool) (a b c : Bs) : Md := ⟨wide, big, 0, 0, 0, 0, 0, 0, [], [seT 3 a, seT 11 b, seT 1879048182 c], 0⟩
theorem seT_ok {ty : Nat} {o : Bs} (h : ty < 4294967296) (ho : o.length ≤ 10000) : (seT ty o).Ok := by
 refine ⟨?_, h, ?_, ?_, ?_, ?_, ?_, ?_, ?_, ⟨?_, ?_, ?_⟩⟩ <;> (try unfold I64) <;> simp only [seT] <;> omega
theorem mdTf_ok {wide big : Bool} {a b c : Bs} (ha : a.length ≤ 10000) (hb : b.length ≤ 10000) (hc : c.length ≤ 10000) : (mdTf wide big a b c).Ok := by
 refine ⟨?_, ?_, ?_, ?_, ?_, ?_, fun s h => absurd h (by simp [mdTf]), fun s h => ?_, ?_⟩
 rotate_left 6
 ·simp only [mdTf, List.mem_cons, List.not_mem_nil, or_false] at h
  rcases h with rfl | rfl | rfl
  ·exact seT_ok (by omega) ha
  ·exact seT_ok (by omega) hb
  ·exact seT_ok (by omega) hc
 ·unfold I64
  simp only [mdTf]
  omega
 all_goals
  simp only [mdTf]
  omega
theorem fit_small (wide : Bool) {v : Nat} (h : v < 4294967296) : fitW wide v = true := by
 unfold fitW byWide
 cases wide <;> simp <;> omega
theorem mdTf_chk {wide big : Bool} {a b c : Bs} (ha : a.length ≤ 10000) (hb : b.length ≤ 10000) (hc : c.length ≤ 10000) : (mdTf wide big a b c).chk = 0 := by
 have h1 : (mdTf wide big a b c).large = false := rfl
 have h2 : (mdTf wide big a b c).fits = true := by
  unfold Md.fits
  rw [List.all_eq_true]
  intro v hv
  refine fit_small _ ?_
  simp only [Md.nums, mdTf, List.flatMap_nil, List.nil_append, List.flatMap_cons, List.append_nil, Se.nums, seT, List.mem_cons, List.mem_append, List.not_mem_nil, or_false] at hv
  omega
 have h3 : (mdTf wide big a b c).segsC = 0 := rfl
 have key : ∀ (ty : Nat) (o : Bs), ty ≠ 0 → ty ≠ 8 → (mdTf wide big a b c).secC (seT ty o) = 0 := fun ty o t0 t8 => by
  unfold Md.secC
  have e1 : (mdTf wide big a b c).may (seT ty o).pl = true := by simp [Md.may, seT, Pl.ownMay]
  rw [e1]
  simp [seT, Se.held, t0, t8, mdTf]
 have h4 : (mdTf wide big a b c).secsC = 0 := by
  unfold Md.secsC
  rw [fstC_zero]
  intro s hs
  simp only [mdTf, List.mem_cons, List.not_mem_nil, or_false] at hs
  rcases hs with rfl | rfl | rfl
  ·exact key 3 a (by decide) (by decide)
  ·exact key 11 b (by decide) (by decide)
  ·exact key 1879048182 c (by decide) (by decide)
 have h5 : (mdTf wide big a b c).namesC = 0 := by
  unfold Md.namesC Md.named
  simp [mdTf, seT]
 unfold Md.chk
 rw [h1, h2, h3, h4, h5]
 rfl
theorem fin_less (e v a n : Nat) : fin e v a n < e + max a 1 + n := by
 have := nxt_lt e v a
 unfold fin plc
 omega
theorem mdTf_eT {wide big : Bool} {a b c : Bs} (ha : a.length ≤ 10000) (hb : b.length ≤ 10000) (hc : c.length ≤ 10000) : (mdTf wide big a b c).eT ≤ 65536 := by
 have h0 : (mdTf wide big a b c).eS 0 ≤ 64 := by
  cases wide <;> simp [Md.eS, Md.eO, Md.eL, Md.e1, mdTf, hSize, byWide]
 have s1 := fin_less ((mdTf wide big a b c).eS 0) 0 8 a.length
 have s2 := fin_less ((mdTf wide big a b c).eS 1) 0 8 b.length
 have s3 := fin_less ((mdTf wide big a b c).eS 2) 0 8 c.length
 have e1 : (mdTf wide big a b c).eS 1 = fin ((mdTf wide big a b c).eS 0) 0 8 a.length := rfl
 have e2 : (mdTf wide big a b c).eS 2 = fin ((mdTf wide big a b c).eS 1) 0 8 b.length := rfl
 have e3 : (mdTf wide big a b c).eS 3 = fin ((mdTf wide big a b c).eS 2) 0 8 c.length := rfl
 have e4 : (mdTf wide big a b c).eT = fin ((mdTf wide big a b c).eS 3) 0 8 (byWide wide 40 64 * 4) := rfl
 have s4 := fin_less ((mdTf wide big a b c).eS 3) 0 8 (byWide wide 40 64 * 4)
 have hw : byWide wide 40 64 ≤ 64 := by cases wide <;> decide
 rw [e4]
 omega
theorem mdTf_good {wide big : Bool} {a b c : Bs} (ha : a.length ≤ 10000) (hb : b.length ≤ 10000) (hc : c.length ≤ 10000) : Good (mdTf wide big a b c) :=
 ⟨mdTf_ok ha hb hc, by unfold Md.planC; rw [mdTf_chk ha hb hc, if_pos (mdTf_eT ha hb hc)]; rfl, fun s h => absurd h (by simp [mdTf]), fun s h => by
  simp only [mdTf, List.mem_cons, List.not_mem_nil, or_false] at h
  unfold maxLen
  rcases h with rfl | rfl | rfl
  ·simp only [seT]; omega
  ·simp only [seT]; omega
  ·simp only [seT]; omega⟩
def syT (at_ : List Nat) (i : Nat) : Sy := ⟨at_.getD i 0, 0, 0, 0, i, 0⟩
def sysT (at_ : List Nat) (k : Nat) : List Sy := (List.range k).map (syT at_)
theorem sysT_succ (at_ : List Nat) (k : Nat) : sysT at_ (k + 1) = sysT at_ k ++ [syT at_ k] := by unfold sysT; rw [List.range_succ, List.map_append]; rfl
theorem sysT_len (at_ : List Nat) (k : Nat) : (sysT at_ k).length = k := by simp [sysT]
theorem sysT_ok {at_ : List Nat} {k : Nat} (ha : ∀ i, at_.getD i 0 < 4294967296) (hk : k ≤ 1000) : ∀ s ∈ sysT at_ k, s.Ok := fun s hs => by
 obtain ⟨i, hi, rfl⟩ := List.mem_map.1 hs
 have := List.mem_range.1 hi
 exact ⟨ha i, by simp only [syT]; omega, by simp only [syT]; omega, by simp only [syT]; omega, by simp only [syT]; omega, by simp only [syT]; omega⟩
theorem syT_fit {at_ : List Nat} {i : Nat} (wide : Bool) (ha : at_.getD i 0 < 4294967296) (hi : i < 1000) : rowF ((syT at_ i).Q wide) = true := by
 unfold syT
 generalize at_.getD i 0 = x at *
 have e1 : (256 : Nat) ^ 4 = 4294967296 := by decide
 have e2 : (256 : Nat) ^ 8 = 18446744073709551616 := by decide
 have e3 : (256 : Nat) ^ 1 = 256 := by decide
 have e4 : (256 : Nat) ^ 2 = 65536 := by decide
 cases wide
 ·have : (Sy.Q ⟨x, 0, 0, 0, i, 0⟩ false) = [(x, 4), (i, 4), (0, 4), (0, 1), (0, 1), (0, 2)] := rfl
  rw [this]
  simp only [rowF, e1, e3, e4, Bool.and_eq_true, decide_eq_true_eq, and_true]
  omega
 ·have : (Sy.Q ⟨x, 0, 0, 0, i, 0⟩ true) = [(x, 4), (0, 1), (0, 1), (0, 2), (i, 8), (0, 8)] := rfl
  rw [this]
  simp only [rowF, e1, e2, e3, e4, Bool.and_eq_true, decide_eq_true_eq, and_true]
  omega
theorem sysT_fit {at_ : List Nat} (wide : Bool) (ha : ∀ i, at_.getD i 0 < 4294967296) : ∀ k, k ≤ 1000 → rowF (symQ wide (sysT at_ k)) = true
 | 0, _ => rfl
 | k + 1, h => by
  rw [sysT_succ]
  simp only [symQ, List.flatMap_append, rowF_append, List.flatMap_cons, List.flatMap_nil, List.append_nil]
  have := sysT_fit wide ha k (by omega)
  rw [symQ] at this
  rw [this, syT_fit wide (ha k) (by omega)]
  rfl
def allT (L : List Bs) (f : Nat → Nat) (k : Nat) : List Bs := [] :: pickL L f k
theorem allT_succ (L : List Bs) (f : Nat → Nat) (k : Nat) : allT L f (k + 1) = allT L f k ++ [L.getD (f k) []] := by unfold allT; rw [pickL_succ]; rfl
theorem allT_len (L : List Bs) (f : Nat → Nat) (k : Nat) : (allT L f k).length = k + 1 := by unfold allT; rw [List.length_cons, pickL_len]
theorem allT_each {L : List Bs} {f : Nat → Nat} {n m : Nat} (hf : ∀ i, i < n → f i < L.length) (h : ∀ s ∈ L, s.length ≤ m) : ∀ s ∈ allT L f n, s.length ≤ m := fun s hs => by
 rcases List.mem_cons.1 hs with rfl | h2
 ·exact Nat.zero_le _
 ·exact pickL_each hf h s h2
def WantT (all : List Bs) (s : Bs) (k v : Nat) : Prop := (v = 0 ∧ ∀ i, 1 ≤ i → i < k → all.getD i [] ≠ s) ∨ (1 ≤ v ∧ v < k ∧ all.getD v [] = s ∧ ∀ i, 1 ≤ i → i < v → all.getD i [] ≠ s)
theorem want_zero (all : List Bs) (s : Bs) : WantT all s 0 0 := .inl ⟨rfl, fun i _ h => absurd h (by omega)⟩
theorem want_hit {all : List Bs} {s : Bs} {k : Nat} (h : WantT all s k 0) (hk : 1 ≤ k) (he : all.getD k [] = s) : WantT all s (k + 1) k := by
 rcases h with ⟨_, h⟩ | ⟨h, _⟩
 ·exact .inr ⟨hk, by omega, he, fun i h1 h2 => h i h1 h2⟩
 ·omega
theorem want_miss {all : List Bs} {s : Bs} {k v : Nat} (h : WantT all s k v) (he : 1 ≤ k → all.getD k [] = s → v ≠ 0) : WantT all s (k + 1) v := by
 rcases h with ⟨h1, h2⟩ | ⟨h1, h2, h3, h4⟩
 ·refine .inl ⟨h1, fun i h3 h4 h5 => ?_⟩
  by_cases e : i = k
  ·subst e
   exact he h3 h5 h1
  ·exact h2 i h3 (by omega) h5
 ·exact .inr ⟨h1, by omega, h3, h4⟩
theorem want_fst {t : Gn} {all : List Bs} {s : Bs} {v u : Nat} (hf : t.first = 1) (hall : ∀ i, i < t.n → all.getD (1 + i) [] = t.L.getD i []) (h : WantT all s (t.n + 1) v) (hu : t.Fst s u) : u = v := by
 refine Gn.Fst.eq hu ?_
 rcases h with ⟨h1, h2⟩ | ⟨h1, h2, h3, h4⟩
 ·exact .inl ⟨h1, fun i hi => by rw [← hall i hi]; exact h2 (1 + i) (by omega) (by omega)⟩
 ·obtain ⟨i, rfl⟩ : ∃ i, v = 1 + i := ⟨v - 1, by omega⟩
  refine .inr ⟨i, by omega, by omega, by rw [← hall i (by omega)]; exact h3, fun x hx => by rw [← hall x (by omega)]; exact h4 (1 + x) (by omega) (by omega)⟩
end Go.Proofs.YtfbimboemahhhaaGreatDoor
namespace Go.Proofs.YtfbimboemahhhaaGreatDoor
open Go.RowKit
def laidIn (os ns : List Nat) (n k : Nat) : List Nat := (List.range n).map fun i => if i ∈ os.take k then ns.getD i 0 else 0
theorem laidIn_zero (os ns : List Nat) (n : Nat) : laidIn os ns n 0 = List.replicate n 0 := by
 apply List.ext_getElem?
 intro i
 by_cases h : i < n
 ·simp [laidIn, h]
 ·simp [laidIn, h]
theorem laidIn_succ {os ns : List Nat} {n k o v : Nat} (ho : os[k]? = some o) (hv : ns.getD o 0 = v) : (laidIn os ns n k).set o v = laidIn os ns n (k + 1) := by
 obtain ⟨hk, e⟩ := List.getElem?_eq_some_iff.1 ho
 apply List.ext_getElem?
 intro i
 rw [List.getElem?_set]
 simp only [laidIn, List.length_map, List.length_range, List.getElem?_map]
 rw [take_snoc_nat os k hk, e]
 by_cases h : i < n
 ·by_cases e2 : o = i
  ·subst e2
   rw [if_pos rfl, if_pos h, List.getElem?_range h]
   subst hv
   simp
  ·rw [if_neg e2, List.getElem?_range h]
   have e3 : ¬ i = o := fun h => e2 h.symm
   simp [e3]
 ·rw [List.getElem?_eq_none (by simp; omega)]
  by_cases e2 : o = i
  ·subst e2; rw [if_pos rfl, if_neg h]; rfl
  ·rw [if_neg e2]
   rfl
theorem laidIn_all {os ns : List Nat} {n : Nat} (h : ∀ i, i < n → i ∈ os) (hn : ns.length = n) : laidIn os ns n os.length = ns := by
 apply List.ext_getElem?
 intro i
 by_cases hi : i < n
 ·have hm := h i hi
  simp [laidIn, hi, hm, show i < ns.length by omega]
 ·rw [List.getElem?_eq_none (by simp [laidIn]; omega), List.getElem?_eq_none (by omega)]
theorem len_laidIn (os ns : List Nat) (n k : Nat) : (laidIn os ns n k).length = n := by simp [laidIn]
def pX (l : List UInt8) (p : Nat) (wide big : Bool) : List Nat := nums l big p (pRow wide)
def pgOf (l : List UInt8) (p : Nat) (wide big : Bool) : Pg :=
 if wide then ⟨(pX l p wide big).getD 0 0, (pX l p wide big).getD 1 0, (pX l p wide big).getD 2 0, (pX l p wide big).getD 3 0, (pX l p wide big).getD 4 0, (pX l p wide big).getD 5 0, (pX l p wide big).getD 6 0, (pX l p wide big).getD 7 0⟩
 else ⟨(pX l p wide big).getD 0 0, (pX l p wide big).getD 6 0, (pX l p wide big).getD 1 0, (pX l p wide big).getD 2 0, (pX l p wide big).getD 3 0, (pX l p wide big).getD 4 0, (pX l p wide big).getD 5 0, (pX l p wide big).getD 7 0⟩
theorem pgOf_at (l : List UInt8) (p : Nat) (wide big : Bool) (k : Nat) (h : k < 8) : (pgOf l p wide big).N.getD ((pOrd wide).getD k 0) 0 = (pX l p wide big).getD k 0 := by
 cases wide <;> (match k, h with
  | 0, _ => rfl
  | 1, _ => rfl
  | 2, _ => rfl
  | 3, _ => rfl
  | 4, _ => rfl
  | 5, _ => rfl
  | 6, _ => rfl
  | 7, _ => rfl)
theorem pX_lt (l : List UInt8) (p : Nat) (wide big : Bool) (k : Nat) (h : k < 8) : (pX l p wide big).getD k 0 < 256 ^ ((pRow wide).getD k 0) := by
 have h1 : k < (nums l big p (pRow wide)).length := by rw [length_nums, len_pRow]; exact h
 have := nums_lt l big (pRow wide) p k h1
 rw [pX, List.getD_eq_getElem?_getD, List.getElem?_eq_getElem h1]
 exact this
theorem pX_64 (l : List UInt8) (p : Nat) (wide big : Bool) (k : Nat) (h : k < 8) : (pX l p wide big).getD k 0 < 18446744073709551616 := by
 refine Nat.lt_of_lt_of_le (pX_lt l p wide big k h) (show _ ≤ 256 ^ 8 from Nat.pow_le_pow_right (by decide) ?_)
 have e : (pRow wide).getD k 0 = pWid wide ((pOrd wide).getD k 0) := by
  rw [pRow, List.getD_eq_getElem?_getD, List.getD_eq_getElem?_getD, List.getElem?_map, List.getElem?_eq_getElem (by rw [len_pOrd]; exact h)]
  rfl
 rw [e]
 unfold pWid
 split <;> omega
theorem pgOf_ok (l : List UInt8) (p : Nat) (wide big : Bool) : (pgOf l p wide big).Ok := by
 have h := pX_64 l p wide big
 have h0 := pX_lt l p wide big 0 (by omega)
 cases wide
 ·have h6 := pX_lt l p false big 6 (by omega)
  exact ⟨h0, h6, h 1 (by omega), h 2 (by omega), h 3 (by omega), h 4 (by omega), h 5 (by omega), h 7 (by omega)⟩
 ·have h1 := pX_lt l p true big 1 (by omega)
  exact ⟨h0, h1, h 2 (by omega), h 3 (by omega), h 4 (by omega), h 5 (by omega), h 6 (by omega), h 7 (by omega)⟩
theorem pOrd_all (wide : Bool) (i : Nat) (h : i < 8) : i ∈ pOrd wide := by
 cases wide <;> (match i, h with
  | 0, _ => decide
  | 1, _ => decide
  | 2, _ => decide
  | 3, _ => decide
  | 4, _ => decide
  | 5, _ => decide
  | 6, _ => decide
  | 7, _ => decide)
def laidUp (ns : List Nat) (n k : Nat) : List Nat := (List.range n).map fun i => if i < k then ns.getD i 0 else 0
theorem laidUp_zero (ns : List Nat) (n : Nat) : laidUp ns n 0 = List.replicate n 0 := by
 apply List.ext_getElem?
 intro i
 by_cases h : i < n
 ·simp [laidUp, h]
 ·simp [laidUp, h]
theorem len_laidUp (ns : List Nat) (n k : Nat) : (laidUp ns n k).length = n := by simp [laidUp]
theorem laidUp_succ {ns : List Nat} {n k v : Nat} (hv : ns.getD k 0 = v) : (laidUp ns n k).set k v = laidUp ns n (k + 1) := by
 apply List.ext_getElem?
 intro i
 rw [List.getElem?_set]
 simp only [laidUp, List.length_map, List.length_range, List.getElem?_map]
 by_cases h : i < n
 ·by_cases e2 : k = i
  ·subst e2
   rw [if_pos rfl, if_pos h, List.getElem?_range h]
   subst hv
   simp
  ·rw [if_neg e2, List.getElem?_range h]
   have e3 : i < k ↔ i < k + 1 := by omega
   simp only [Option.map_some, e3]
 ·rw [List.getElem?_eq_none (by simp; omega)]
  by_cases e2 : k = i
  ·subst e2; rw [if_pos rfl, if_neg h]; rfl
  ·rw [if_neg e2]
   rfl
theorem laidUp_all {ns : List Nat} {n : Nat} (hn : ns.length = n) : laidUp ns n n = ns := by
 apply List.ext_getElem?
 intro i
 by_cases hi : i < n
 ·simp [laidUp, hi, show i < ns.length by omega]
 ·rw [List.getElem?_eq_none (by simp [laidUp]; omega), List.getElem?_eq_none (by omega)]
def sX (l : List UInt8) (p : Nat) (wide big : Bool) : List Nat := nums l big p (sRow wide)
def scOf (l : List UInt8) (p : Nat) (wide big : Bool) : Sc :=
 ⟨(sX l p wide big).getD 0 0, (sX l p wide big).getD 1 0, (sX l p wide big).getD 2 0, (sX l p wide big).getD 3 0, (sX l p wide big).getD 4 0, (sX l p wide big).getD 5 0, (sX l p wide big).getD 6 0, (sX l p wide big).getD 7 0, (sX l p wide big).getD 8 0, (sX l p wide big).getD 9 0⟩
theorem sX_len (l : List UInt8) (p : Nat) (wide big : Bool) : (sX l p wide big).length = 10 := by rw [sX, length_nums, len_sRow]
theorem scOf_N (l : List UInt8) (p : Nat) (wide big : Bool) : (scOf l p wide big).N = sX l p wide big := by
 obtain ⟨x0, x1, x2, x3, x4, x5, x6, x7, x8, x9, hx⟩ := list10 (sX_len l p wide big)
 unfold scOf
 rw [hx]
 rfl
theorem sX_lt (l : List UInt8) (p : Nat) (wide big : Bool) (k : Nat) (h : k < 10) : (sX l p wide big).getD k 0 < 256 ^ ((sRow wide).getD k 0) := by
 have h1 : k < (nums l big p (sRow wide)).length := by rw [length_nums, len_sRow]; exact h
 have := nums_lt l big (sRow wide) p k h1
 rw [sX, List.getD_eq_getElem?_getD, List.getElem?_eq_getElem h1]
 exact this
theorem sX_64 (l : List UInt8) (p : Nat) (wide big : Bool) (k : Nat) (h : k < 10) : (sX l p wide big).getD k 0 < 18446744073709551616 := by
 refine Nat.lt_of_lt_of_le (sX_lt l p wide big k h) (show _ ≤ 256 ^ 8 from Nat.pow_le_pow_right (by decide) ?_)
 rw [sRow_at wide k h]
 unfold sWid
 split
 ·omega
 ·cases wide <;> decide
theorem scOf_ok (l : List UInt8) (p : Nat) (wide big : Bool) : (scOf l p wide big).Ok := by
 have h := sX_64 l p wide big
 exact ⟨sX_lt l p wide big 0 (by omega), sX_lt l p wide big 1 (by omega), h 2 (by omega), h 3 (by omega), h 4 (by omega), h 5 (by omega), sX_lt l p wide big 6 (by omega), sX_lt l p wide big 7 (by omega), h 8 (by omega), h 9 (by omega)⟩
set_option linter.unusedVariables false
def oPh (wide : Bool) : Nat := byWide wide 28 32
def oSh (wide : Bool) : Nat := byWide wide 32 40
def oPn (wide : Bool) : Nat := byWide wide 44 56
def oSn (wide : Bool) : Nat := byWide wide 48 60
def oSt (wide : Bool) : Nat := byWide wide 50 62
def inB (len p n : Nat) : Bool := decide (n = 0) || decide (p + n ≤ len)
section
variable (l : List UInt8)
def fst_ : Sc := if (hdOf l).sh = 0 then sc0 else scOf l (hdOf l).sh (lWide l) (lBig l)
def nP : Nat := if (hdOf l).pn = 65535 then (fst_ l).inf else (hdOf l).pn
def nS : Nat := if (hdOf l).sn = 0 then (fst_ l).sz else (hdOf l).sn
def nI : Nat := if (hdOf l).st = 65535 then (fst_ l).li else (hdOf l).st
def scE : Nat × Nat :=
 if (hdOf l).sh = 0 then (if nS l ≠ 0 then (4, oSn (lWide l)) else (0, 0))
 else if nS l = 0 ∨ 65 < nS l then (8, oSh (lWide l)) else if inB l.length (hdOf l).sh (nS l * sSize (lWide l)) then (0, 0) else (5, oSh (lWide l))
def pgE : Nat × Nat :=
 if (hdOf l).pn = 65535 ∧ (hdOf l).sh = 0 then (4, oPn (lWide l)) else if 16 < nP l then (8, oPn (lWide l)) else if inB l.length (hdOf l).ph (nP l * pSize (lWide l)) then (0, 0) else (5, oPh (lWide l))
def cntE : Nat × Nat :=
 if (hdOf l).sh ≠ 0 ∧ ¬ (hdOf l).sh + sSize (lWide l) ≤ l.length then (5, oSh (lWide l))
 else if (scE l).1 ≠ 0 then scE l else if (pgE l).1 ≠ 0 then pgE l else if (hdOf l).st = 65535 ∧ (hdOf l).sh = 0 then (4, oSt (lWide l)) else (0, 0)
def pAt (i : Nat) : Nat := (hdOf l).ph + i * pSize (lWide l)
def sAt (i : Nat) : Nat := (hdOf l).sh + i * sSize (lWide l)
def pgs (i : Nat) : Pg := pgOf l (pAt l i) (lWide l) (lBig l)
def scs (i : Nat) : Sc := scOf l (sAt l i) (lWide l) (lBig l)
def Sc.held (s : Sc) : Nat := if s.ty = 0 ∨ s.ty = 8 then 0 else s.sz
def pBad (i : Nat) : Nat := if inB l.length (pgs l i).off (pgs l i).fs then 0 else pAt l i + 1
def sBad (i : Nat) : Nat := if inB l.length (scs l (i + 1)).off (scs l (i + 1)).held then 0 else sAt l (i + 1) + 1
def tabE : Nat × Nat :=
 if fstC (pBad l) (List.range (nP l)) ≠ 0 then (5, fstC (pBad l) (List.range (nP l)) - 1) else if fstC (sBad l) (List.range (nS l - 1)) ≠ 0 then (5, fstC (sBad l) (List.range (nS l - 1)) - 1) else (0, 0)
def pHas (off n i : Nat) : Bool := decide ((pgs l i).ty = 1) && (decide ((pgs l i).off ≤ off) && decide (off - (pgs l i).off + n ≤ (pgs l i).fs))
def ownPl (off n : Nat) : Pl := if n = 0 then ⟨-1, 0, 0, []⟩ else ⟨-1, 0, n, (l.drop off).take n⟩
def fstP (off n : Nat) : Nat → Nat → Option Nat
 | i, 0 => none
 | i, k + 1 => if pHas l off n i then some i else fstP off n (i + 1) k
def findPl (off n : Nat) : Pl := if n = 0 then ownPl l off n else match fstP l off n 0 (nP l) with | some i => ⟨(i : Int), off - (pgs l i).off, n, []⟩ | none => ownPl l off n
def segF (i : Nat) : Sg := ⟨(pgs l i).ty, (pgs l i).fl, (pgs l i).va, (pgs l i).pa, (pgs l i).ms, (pgs l i).al, if (pgs l i).ty = 1 then ownPl l (pgs l i).off (pgs l i).fs else findPl l (pgs l i).off (pgs l i).fs⟩
def secF (i : Nat) : Se := ⟨(scs l (i + 1)).na, (scs l (i + 1)).ty, (scs l (i + 1)).fl, (scs l (i + 1)).ad, (scs l (i + 1)).sz, (scs l (i + 1)).li, (scs l (i + 1)).inf, (scs l (i + 1)).al, (scs l (i + 1)).en,
 if (scs l (i + 1)).ty = 0 ∨ (scs l (i + 1)).ty = 8 then ownPl l 0 0 else if i + 1 = nI l then ownPl l (scs l (i + 1)).off (scs l (i + 1)).sz else findPl l (scs l (i + 1)).off (scs l (i + 1)).sz⟩
def mdF : Md := ⟨lWide l, lBig l, (l.getD 7 0).toNat, (l.getD 8 0).toNat, (hdOf l).ty, (hdOf l).ma, (hdOf l).fl, (hdOf l).en, (List.range (nP l)).map (segF l), (List.range (nS l - 1)).map (secF l), (nI l : Int)⟩
def mdN : Md := ⟨false, false, 0, 0, 0, 0, 0, 0, [], [], 0⟩
def restE : Nat × Nat := if (cntE l).1 ≠ 0 then cntE l else if (tabE l).1 ≠ 0 then tabE l else if (mdF l).planC ≠ 0 then ((mdF l).planC, 0) else (0, 0)
def PTold (c p : Nat) (m : Md) : Prop :=
 (65536 < l.length ∧ c = 8 ∧ p = 65536 ∧ m = mdN) ∨ (l.length ≤ 65536 ∧ c ≠ 0 ∧ HTold l c p hd0.V ∧ m = mdN) ∨ (l.length ≤ 65536 ∧ HTold l 0 0 (hdOf l).V ∧ restE l = (c, p) ∧ m = if c = 0 then mdF l else mdN)
end
section
variable {l : List UInt8}
theorem HTold.zero {c p : Nat} {v : Value} (h : HTold l c p v) (hc : c = 0) : p = 0 ∧ v = (hdOf l).V := by
 subst hc
 rcases h with ⟨h, _⟩ | ⟨_, h, e⟩
 ·exact absurd rfl h
 ·rw [if_pos rfl] at e
  rcases h with ⟨_, h, _⟩ | ⟨_, _, _, h⟩ | ⟨_, h, _⟩
  ·omega
  ·exact ⟨h, e⟩
  ·omega
theorem HTold.not {c p : Nat} {v : Value} (h : HTold l c p v) (hc : c ≠ 0) : v = hd0.V := by
 rcases h with ⟨_, _, e⟩ | ⟨_, _, e⟩
 ·exact e
 ·rwa [if_neg hc] at e
theorem PTold.one {c p c' p' : Nat} {m m' : Md} (h : PTold l c p m) (h' : PTold l c' p' m') : c = c' ∧ p = p' ∧ m = m' := by
 rcases h with ⟨h1, rfl, rfl, rfl⟩ | ⟨h1, h2, h3, rfl⟩ | ⟨h1, h2, h3, rfl⟩ <;> rcases h' with ⟨g1, rfl, rfl, rfl⟩ | ⟨g1, g2, g3, rfl⟩ | ⟨g1, g2, g3, rfl⟩
 ·exact ⟨rfl, rfl, rfl⟩
 ·omega
 ·omega
 ·omega
 ·obtain ⟨e1, e2, _⟩ := h3.one g3
  exact ⟨e1, e2, rfl⟩
 ·exact absurd (h3.one g2).1 h2
 ·omega
 ·exact absurd (g3.one h2).1 g2
 ·rw [h3] at g3
  injection g3 with e1 e2
  subst e1; subst e2
  exact ⟨rfl, rfl, rfl⟩
theorem inB_le {len p n : Nat} (h : inB len p n = true) (hn : n ≠ 0) : p + n ≤ len := by
 unfold inB at h
 simp at h
 rcases h with h | h
 ·exact absurd h hn
 ·exact h
theorem cnt_ok (h : (cntE l).1 = 0) : (scE l).1 = 0 ∧ (pgE l).1 = 0 ∧ ¬ ((hdOf l).sh ≠ 0 ∧ ¬ (hdOf l).sh + sSize (lWide l) ≤ l.length) ∧ ¬ ((hdOf l).st = 65535 ∧ (hdOf l).sh = 0) := by
 unfold cntE at h
 split at h
 ·simp at h
 split at h
 ·exact absurd h (by assumption)
 split at h
 ·exact absurd h (by assumption)
 split at h
 ·simp at h
 ·rename_i h1 h2 h3 h4
  exact ⟨by omega, by omega, h1, h4⟩
theorem sc_ok (h : (scE l).1 = 0) : ((hdOf l).sh = 0 ∧ nS l = 0) ∨ ((hdOf l).sh ≠ 0 ∧ 0 < nS l ∧ nS l ≤ 65 ∧ (hdOf l).sh + nS l * sSize (lWide l) ≤ l.length) := by
 unfold scE at h
 split at h
 ·rename_i h1
  split at h
  ·simp at h
  ·exact .inl ⟨h1, by omega⟩
 ·rename_i h1
  split at h
  ·simp at h
  ·rename_i h2
   split at h
   ·rename_i h3
    refine .inr ⟨h1, by omega, by omega, inB_le h3 ?_⟩
    have : 0 < sSize (lWide l) := by cases lWide l <;> decide
    exact Nat.ne_of_gt (Nat.mul_pos (by omega) this)
   ·simp at h
theorem pg_ok (h : (pgE l).1 = 0) : nP l ≤ 16 ∧ (nP l = 0 ∨ (hdOf l).ph + nP l * pSize (lWide l) ≤ l.length) := by
 unfold pgE at h
 split at h
 ·simp at h
 split at h
 ·simp at h
 ·rename_i h1 h2
  split at h
  ·rename_i h3
   refine ⟨by omega, ?_⟩
   rcases Nat.eq_zero_or_pos (nP l) with h0 | h0
   ·exact .inl h0
   ·refine .inr (inB_le h3 ?_)
    have : 0 < pSize (lWide l) := by cases lWide l <;> decide
    exact Nat.ne_of_gt (Nat.mul_pos h0 this)
  ·simp at h
theorem mulS {k n z : Nat} (h : k < n) : k * z + z ≤ n * z := by
 have := Nat.mul_le_mul_right z (show k + 1 ≤ n from h)
 rw [Nat.succ_mul] at this
 exact this
theorem pAt_in (h : (cntE l).1 = 0) {i : Nat} (hi : i < nP l) : pAt l i + pSize (lWide l) ≤ l.length := by
 have := (pg_ok (cnt_ok h).2.1).2
 have := mulS (z := pSize (lWide l)) hi
 unfold pAt
 omega
theorem sAt_in (h : (cntE l).1 = 0) {i : Nat} (hi : i < nS l) : sAt l i + sSize (lWide l) ≤ l.length := by
 have := sc_ok (cnt_ok h).1
 have := mulS (z := sSize (lWide l)) hi
 unfold sAt
 omega
end
set_option linter.unusedVariables false
theorem range_map {α : Type} (f : Nat → α) (k : Nat) : (List.range (k + 1)).map f = (List.range k).map f ++ [f k] := by rw [List.range_succ, List.map_append]; rfl
def pgR (l : List UInt8) (k : Nat) : List (Array Value) := (List.range k).map fun i => (pgs l i).C
def scR (l : List UInt8) (k : Nat) : List (Array Value) := (List.range k).map fun i => (scs l (i + 1)).C
theorem pgR_succ (l : List UInt8) (k : Nat) : pgR l (k + 1) = pgR l k ++ [(pgs l k).C] := by unfold pgR; rw [List.range_succ, List.map_append]; rfl
theorem scR_succ (l : List UInt8) (k : Nat) : scR l (k + 1) = scR l k ++ [(scs l (k + 1)).C] := by unfold scR; rw [List.range_succ, List.map_append]; rfl
theorem pgR_at (l : List UInt8) (P k : Nat) (h : k < P) (h' : k < (pgR l P).length) : (pgR l P)[k] = (pgs l k).C := by simp [pgR]
theorem OB.from_ {w : World} {base : Nat} {e : TypeId} {A : Option Addr} {n c : Nat} {l : List UInt8} (h : OB w base e A n c l) {g : Nat} (hg : own A = some g) : base ≤ g ∧ g < w.heap.size := by
 rcases h.2 with ⟨hv, _⟩ | ⟨g', cap, cur, hv, hb, hh, _⟩
 ·injection hv with e1 _ _
  subst e1
  cases hg
 ·injection hv with e1 _ _
  subst e1
  have e3 : g' = g := Option.some.inj hg
  subst e3
  refine ⟨hb, ?_⟩
  rcases Nat.lt_or_ge g' w.heap.size with h1 | h1
  ·exact h1
  ·rw [Array.getElem?_eq_none h1] at hh; cases hh
theorem OB.beside {w : World} {base : Nat} {e : TypeId} {A : Option Addr} {n c g : Nat} {l : List UInt8} (h : OB w base e A n c l) (hne : own A ≠ some g) (cs' : Array Value) : OB (w.setRow g cs') base e A n c l := by
 refine ⟨h.1, ?_⟩
 rcases h.2 with h0 | ⟨g', cap, cur, hv, hb, hh, r⟩
 ·exact .inl h0
 ·refine .inr ⟨g', cap, cur, hv, hb, ?_, r⟩
  have : g' ≠ g := fun he => hne (by injection hv with e1 _ _; subst e1; subst he; rfl)
  rw [setRow_other w g g' cs' (by exact this)]
  exact hh
section
variable {W W' : World} {base : Nat}
theorem ZO.kinds {b1 b2 : Nat} {e e' : TypeId} {z z' : Nat} {A A' : Option Addr} {n c n' c' : Nat} {R R' : List (Array Value)} (h : ZO W b1 e z A n c R) (h' : ZO W b2 e' z' A' n' c' R') (ht : e ≠ e') : own A = none ∨ own A ≠ own A' := by
 rcases h.1.2 with ⟨hv, _⟩ | ⟨g, cap, cur, hv, _, hh, _⟩
 ·injection hv with e1 _ _
  subst e1
  exact .inl rfl
 ·injection hv with e1 _ _
  subst e1
  refine .inr fun hA => ?_
  rcases h'.1.2 with ⟨hv', _⟩ | ⟨g', cap', cur', hv', _, hh', _⟩
  ·injection hv' with e1 _ _
   subst e1
   cases hA
  ·injection hv' with e1 _ _
   subst e1
   have e3 : g = g' := Option.some.inj hA
   subst e3
   rw [hh] at hh'
   injection hh' with hh'
   injection hh' with _ hh'
   exact ht hh'
theorem ZO.past {b1 : Nat} {e : TypeId} {z : Nat} {A : Option Addr} {n c : Nat} {R : List (Array Value)} {row : Option Nat} (h : ZO W b1 e z A n c R) (hg : W.grownBy W' row) (hne : own A = none ∨ own A ≠ row) : ZO W' b1 e z A n c R := ⟨World.ownsRow.kept h.1 hg (by rw [own_slice]; exact hne), h.2⟩
theorem ZO.notb {e : TypeId} {z : Nat} {A : Option Addr} {n c g : Nat} {l : List (Array Value)} (h : ZO W base e z A n c l) (hg : g < base) : own A ≠ some g := fun e => by have := h.ge e; omega
end
def RO {α : Type} (K : RK α) (w : World) (base : Nat) (r : Array Value) (a : α) : Prop := ∃ A n c, r = K.cs a (.slice A n c) ∧ OB w base 5 A n c (K.by_ a)
def GR {α : Type} (K : RK α) (w : World) (base : Nat) (e : TypeId) (A : Option Addr) (k c : Nat) (L : List α) : Prop :=
 ∃ R, ZO w base e K.z A k c R ∧ R.length = L.length ∧ ∀ j (h : j < R.length) (h' : j < L.length), RO K w base R[j] L[j]
theorem OB.kindNe {w : World} {base base' : Nat} {e e' : TypeId} {z : Nat} {A A' : Option Addr} {n c n' c' : Nat} {l : List UInt8} {R : List (Array Value)} (h : OB w base e A n c l) (h' : ZO w base' e' z A' n' c' R) (ht : e ≠ e') : own A = none ∨ own A ≠ own A' := by
 rcases h.2 with ⟨hv, _⟩ | ⟨g, cap, cur, hv, _, hh, _⟩
 ·injection hv with e1 _ _
  subst e1
  exact .inl rfl
 ·injection hv with e1 _ _
  subst e1
  refine .inr fun hA => ?_
  rcases h'.1.2 with ⟨hv', _⟩ | ⟨g', cap', cur', hv', _, hh', _⟩
  ·injection hv' with e1 _ _
   subst e1
   cases hA
  ·injection hv' with e1 _ _
   subst e1
   have e3 : g = g' := Option.some.inj hA
   subst e3
   rw [hh] at hh'
   injection hh' with hh'
   injection hh' with _ hh'
   exact ht hh'
theorem OB.passed {w w' : World} {base : Nat} {e : TypeId} {A : Option Addr} {n c : Nat} {l : List UInt8} {row : Option Nat} (h : OB w base e A n c l) (hg : w.grownBy w' row) (hne : own A = none ∨ own A ≠ row) : OB w' base e A n c l := World.ownsRow.kept h hg (by rw [own_slice]; exact hne)
section
variable {α β : Type} {K : RK α} {K' : RK β} {w w' : World} {base : Nat} {e e' : TypeId} {A A' : Option Addr} {k c k' c' : Nat} {L : List α} {L' : List β}
theorem GR.nil (hz : True) : GR K w base e none 0 0 ([] : List α) := ⟨[], ZO.nil, rfl, fun j h => absurd h (by simp)⟩
theorem RO.keep {r : Array Value} {a : α} (h : RO K w base r a) (hg : Grow w w') : RO K w' base r a := by
 obtain ⟨A, n, c, e1, h1⟩ := h
 exact ⟨A, n, c, e1, h1.keep hg⟩
theorem GR.keep (h : GR K w base e A k c L) (hg : Grow w w') : GR K w' base e A k c L := by
 obtain ⟨R, h1, h2, h3⟩ := h
 exact ⟨R, h1.keep hg, h2, fun j a b => (h3 j a b).keep hg⟩
theorem GR.past {z : Nat} {A2 : Option Addr} {n2 c2 : Nat} {R2 : List (Array Value)} (h : GR K w base e A k c L) (h' : ZO w base e' z A2 n2 c2 R2) (hne : e ≠ e') (hu : 5 ≠ e') (hg : w.grownBy w' (own A2)) : GR K w' base e A k c L := by
 obtain ⟨R, h1, h2, h3⟩ := h
 refine ⟨R, h1.past hg (h1.kinds h' hne), h2, fun j a b => ?_⟩
 obtain ⟨A, n, c, e1, h4⟩ := h3 j a b
 exact ⟨A, n, c, e1, h4.passed hg (h4.kindNe h' hu)⟩
theorem GR.set {g : Nat} (h : GR K w base e A k c L) (hg : g < base) (cs : Array Value) : GR K (w.setRow g cs) base e A k c L := by
 obtain ⟨R, h1, h2, h3⟩ := h
 refine ⟨R, h1.other (h1.notb hg) cs, h2, fun j a b => ?_⟩
 obtain ⟨A, n, c, e1, h4⟩ := h3 j a b
 exact ⟨A, n, c, e1, h4.beside (fun e => by have := (h4.from_ e).1; omega) cs⟩
theorem GR.mono {b : Nat} (h : GR K w base e A k c L) (hb : b ≤ base) : GR K w b e A k c L := by
 obtain ⟨R, h1, h2, h3⟩ := h
 exact ⟨R, h1.mono hb, h2, fun j a b' => by
  obtain ⟨A, n, c, e1, h4⟩ := h3 j a b'
  exact ⟨A, n, c, e1, h4.mono hb⟩⟩
theorem GR.zr (h : GR K w base e A k c L) : ZR K w w.heap.size A k c L := by
 obtain ⟨R, h1, h2, h3⟩ := h
 exact ⟨R, h1.zs, h2, fun j a b => by
  obtain ⟨A, n, c, e1, h4⟩ := h3 j a b
  exact ⟨A, n, c, e1, h4.rb⟩⟩
theorem GR.snoc {A2 : Option Addr} {c2 : Nat} {r : Array Value} {a : α} {R : List (Array Value)} (h1 : ZO w base e K.z A k c R) (h2 : R.length = L.length) (h3 : ∀ j (h : j < R.length) (h' : j < L.length), RO K w base R[j] L[j]) (hr : RO K w base r a) (hu : 5 ≠ e)
  (ho : ZO w' base e K.z A2 (k + 1) c2 (R ++ [r])) (hg : w.grownBy w' (own A)) : GR K w' base e A2 (k + 1) c2 (L ++ [a]) := by
 have key : ∀ {r : Array Value} {a : α}, RO K w base r a → RO K w' base r a := fun h => by
  obtain ⟨A, n, c, e1, h4⟩ := h
  exact ⟨A, n, c, e1, h4.passed hg (h4.kindNe h1 hu)⟩
 refine ⟨R ++ [r], ho, by simp [h2], fun j h h' => ?_⟩
 by_cases hj : j < R.length
 ·have hj' : j < L.length := by rw [← h2]; exact hj
  rw [List.getElem_append_left hj, List.getElem_append_left hj']
  exact key (h3 j hj hj')
 ·have e1 : j = R.length := by simp at h; omega
  subst e1
  have hl : L.length ≤ R.length := by rw [h2]; exact Nat.le_refl _
  rw [List.getElem_append_right (Nat.le_refl _), List.getElem_append_right hl]
  simpa using key hr
end
theorem Blk.rb {w : World} {g : Nat} {t : TypeId} {l : List UInt8} (h : Blk w g t (l.map byt).toArray) (hm : l.length ≤ maxLen) : RB w w.heap.size (some ⟨g, 0, none⟩) l.length l.length l :=
 ⟨rfl, Nat.le_refl _, hm, fun _ => ⟨g, 0, rfl, h.lt, fun j hj => by
  rw [Nat.zero_add, h.at j]
  simp [byt, hj]⟩⟩
theorem ZR.one {α : Type} {K : RK α} {w : World} {B g : Nat} {t : TypeId} {a : α} {A : Option Addr} {n c : Nat} (h : Blk w g t (K.cs a (.slice A n c))) (hr : RB w B A n c (K.by_ a)) (hz : (K.cs a (.slice A n c)).size = K.z) (hB : g < B) : ZR K w B (some ⟨g, 0, none⟩) 1 1 [a] :=
 ⟨[K.cs a (.slice A n c)], hz ▸ ZS.one h hB, rfl, fun j h1 h2 => by
  obtain rfl : j = 0 := by simpa using h1
  exact ⟨A, n, c, rfl, hr⟩⟩
theorem kept_row {w W : World} {S : Nat → Prop} {row : Option Nat} (h : w.grownBy W row) (hS : ∀ k, row = some k → ¬ S k) : Kept S w W := ⟨h.size, fun k hk hs => h.block k hk (fun e => hS k e.symm hs)⟩
set_option linter.unusedVariables false
structure Rg where
 addr : Nat
 size : Nat
 flags : Nat
 bytes : List UInt8
def rgC (r : Rg) (s : Value) : Array Value := #[.int .u64 (r.addr : Nat), .int .u64 (r.size : Nat), .int .u32 (r.flags : Nat), s]
def rgK : RK Rg := ⟨4, rgC, fun r => r.bytes⟩
def imC (e : Nat) (s : Value) : Array Value := #[.int .u64 (e : Nat), s]
def Rg.has (r : Rg) (x : Nat) : Bool := decide (r.addr ≤ x) && decide (x - r.addr < r.size)
def Rg.at_ (r : Rg) (x : Nat) : Nat := (r.bytes.getD (x - r.addr) 0).toNat
def atL : List Rg → Nat → Nat × Nat × Bool
 | [], _ => (0, 0, false)
 | r :: L, x => if r.has x then (r.at_ x, r.flags, true) else atL L x
theorem atL_drop {L : List Rg} {k : Nat} (h : k < L.length) (x : Nat) : atL (L.drop k) x = if L[k].has x then (L[k].at_ x, L[k].flags, true) else atL (L.drop (k + 1)) x := by
 rw [List.drop_eq_getElem_cons h]
 rfl
def sgRg (s : Sg) : Rg := ⟨s.vaddr, s.memsz, s.flags, s.pl.own⟩
def sgImg (l : List Sg) : List Rg := (l.filter (fun s => s.typ == 1)).map sgRg
def Md.img (m : Md) : List Rg := sgImg m.segs
section
variable (l : List UInt8)
def pgRg (p : Pg) : Rg := ⟨p.va, p.ms, p.fl, (l.drop p.off).take p.fs⟩
def fImg (k : Nat) : List Rg := ((List.range k).filter (fun i => (pgs l i).ty == 1)).map (fun i => pgRg l (pgs l i))
def imL : List Rg := fImg l (hdOf l).pn
def ImIn : Prop := ∀ i, i < (hdOf l).pn → pAt l i + pSize (lWide l) ≤ l.length
def ImOwn : Prop := ∀ i, i < (hdOf l).pn → (pgs l i).ty = 1 → inB l.length (pgs l i).off (pgs l i).fs = true
def Img : Prop := HTold l 0 0 (hdOf l).V ∧ (hdOf l).pn ≠ 65535 ∧ ImIn l ∧ ImOwn l
theorem fImg_succ (k : Nat) : fImg l (k + 1) = fImg l k ++ if (pgs l k).ty = 1 then [pgRg l (pgs l k)] else [] := by
 unfold fImg
 rw [List.range_succ, List.filter_append, List.map_append]
 congr 1
 by_cases ht : (pgs l k).ty = 1
 ·simp [ht]
 ·simp [ht]
theorem fImg_le (k : Nat) : (fImg l k).length ≤ k := by
 unfold fImg
 rw [List.length_map]
 exact Nat.le_trans (List.length_filter_le _ _) (by simp)
end
theorem filter_map_same {α β γ : Type} {f : α → γ} {g : β → γ} {p : α → Bool} {q : β → Bool} : ∀ {a : List α} {b : List β}, a.length = b.length → (∀ i (h : i < a.length) (h' : i < b.length), p a[i] = q b[i] ∧ (p a[i] = true → f a[i] = g b[i])) →
  (a.filter p).map f = (b.filter q).map g
 | [], [], _, _ => rfl
 | x :: a, y :: b, hl, h => by
  obtain ⟨h1, h2⟩ := h 0 (by simp) (by simp)
  simp only [List.getElem_cons_zero] at h1 h2
  have ih := filter_map_same (f := f) (g := g) (p := p) (q := q) (a := a) (b := b) (by simpa using hl) (fun i h3 h4 => by
   have := h (i + 1) (by simpa using h3) (by simpa using h4)
   simpa using this)
  rw [List.filter_cons, List.filter_cons, ← h1]
  cases hp : p x with
  | true => simp only [if_true, List.map_cons]; rw [h2 hp, ih]
  | false => simpa using ih
end Go.Proofs.YtfbimboemahhhaaGreatDoor
