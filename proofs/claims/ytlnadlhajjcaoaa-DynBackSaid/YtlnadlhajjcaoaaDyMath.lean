/-
  Plain words of layer 10: dynamic entries, their numbers and bytes, and what is told of any bytes. No program's function is spoken of here.
-/
import Derived.Test.YtlnadlhajjcaoaaForm
namespace Go.Proofs.Ytlnadlhajjcaoaa
open Go.RowKit

/-- A dynamic entry. -/
structure Dy where
  tag : Nat
  val : Nat
/-- Its fields have the sizes of their types. -/
structure Dy.Ok (p : Dy) : Prop where
  tag : p.tag < 18446744073709551616
  val : p.val < 18446744073709551616

def Dy.C (p : Dy) : Array Value := #[.int .u64 (p.tag : Int), .int .u64 (p.val : Int)]
def Dy.V (p : Dy) : Value := .agg p.C
def dy0 : Dy := ⟨0, 0⟩
theorem Dy.one (p : Dy) : p.C.all (·.oneCell') = true := by simp [Dy.C, Value.oneCell']
/-- How many bytes a number has. -/
def dyW (wide : Bool) : Nat := byWide wide 4 8
def dySize (wide : Bool) : Nat := 2 * dyW wide
/-- Of how many bytes its numbers are. -/
def dyRow (wide : Bool) : List Nat := [dyW wide, dyW wide]
/-- One more than the greatest number. -/
def dyM (wide : Bool) : Nat := byWide wide 4294967296 18446744073709551616
theorem dyM_pow (wide : Bool) : 256 ^ dyW wide = dyM wide := by cases wide <;> rfl
theorem dyM_le (wide : Bool) : dyM wide ≤ 18446744073709551616 := by cases wide <;> decide
theorem sum_dyRow (wide : Bool) : sumN (dyRow wide) = dySize wide := by cases wide <;> rfl
theorem dySize_pos (wide : Bool) : 0 < dySize wide := by cases wide <;> decide
theorem dySize_le (wide : Bool) : dySize wide ≤ 16 := by cases wide <;> decide
theorem dySize_8 (wide : Bool) : 8 ≤ dySize wide := by cases wide <;> decide
theorem dyW_le (wide : Bool) : dyW wide ≤ 8 := by cases wide <;> decide
theorem dyW_pos (wide : Bool) : 0 < dyW wide := by cases wide <;> decide

/-- Its numbers, each with how many bytes it has. -/
def Dy.Q (p : Dy) (wide : Bool) : List (Nat × Nat) := [(p.tag, dyW wide), (p.val, dyW wide)]
theorem Dy.sndQ (p : Dy) (wide : Bool) : (p.Q wide).map (·.2) = dyRow wide := rfl
theorem Dy.fstQ (p : Dy) (wide : Bool) : (p.Q wide).map (·.1) = [p.tag, p.val] := rfl
theorem Dy.lenR (p : Dy) (wide big : Bool) : (rowB big (p.Q wide)).length = dySize wide := by rw [length_rowB, p.sndQ, sum_dyRow]
theorem Dy.rowBQ (p : Dy) (wide big : Bool) : rowB big (p.Q wide) = putB p.tag (dyW wide) big ++ putB p.val (dyW wide) big := by simp [Dy.Q, rowB]
theorem Dy.rowFQ (p : Dy) (wide : Bool) : rowF (p.Q wide) = (decide (p.tag < dyM wide) && decide (p.val < dyM wide)) := by simp only [Dy.Q, rowF, dyM_pow, Bool.and_true]

/-- The numbers of entries, one behind the other. -/
def dynQ (wide : Bool) (l : List Dy) : List (Nat × Nat) := l.flatMap (·.Q wide)
theorem dynQ_snoc (wide : Bool) (l : List Dy) (k : Nat) (h : k < l.length) : dynQ wide (l.take (k + 1)) = dynQ wide (l.take k) ++ l[k].Q wide := by
  unfold dynQ
  rw [List.take_succ_eq_append_getElem h, List.flatMap_append, List.flatMap_cons, List.flatMap_nil, List.append_nil]
theorem dynQ_split (wide : Bool) (l : List Dy) (k : Nat) (h : k < l.length) : dynQ wide l = dynQ wide (l.take k) ++ (l[k].Q wide ++ dynQ wide (l.drop (k + 1))) := by
  have e : l = l.take k ++ l[k] :: l.drop (k + 1) := by rw [← List.drop_eq_getElem_cons h]; exact (List.take_append_drop k l).symm
  have : dynQ wide (l.take k ++ l[k] :: l.drop (k + 1)) = dynQ wide (l.take k) ++ (l[k].Q wide ++ dynQ wide (l.drop (k + 1))) := by
    simp only [dynQ, List.flatMap_append, List.flatMap_cons]
  rw [← e] at this
  exact this
theorem dyn_fit_not {wide : Bool} {L : List Dy} {k : Nat} (h : k < L.length) (hf : rowF (L[k].Q wide) = false) : rowF (dynQ wide L) = false := by
  rw [dynQ_split wide L k h, rowF_append, rowF_append, hf]
  simp
theorem dyn_fit {wide : Bool} {L : List Dy} {k : Nat} (h : k < L.length) (hf : rowF (dynQ wide L) = true) : rowF (L[k].Q wide) = true := by
  cases h2 : rowF (L[k].Q wide)
  · rw [dyn_fit_not h h2] at hf; cases hf
  · rfl
/-- How many bytes they have. -/
theorem dynL_len (wide big : Bool) : ∀ l : List Dy, (rowB big (dynQ wide l)).length = l.length * dySize wide
  | [] => by simp [dynQ, rowB]
  | s :: l => by
    have := dynL_len wide big l
    simp only [dynQ, List.flatMap_cons, rowB_append, List.length_append, s.lenR, List.length_cons] at *
    rw [this, Nat.succ_mul]; omega
theorem dyn_all_fit {L : List Dy} (hok : ∀ s ∈ L, s.Ok) : rowF (dynQ true L) = true := by
  induction L with
  | nil => rfl
  | cons s L ih =>
    have h1 := ih (fun x hx => hok x (by simp [hx]))
    have h2 := hok s (by simp)
    simp only [dynQ, List.flatMap_cons, rowF_append] at *
    rw [h1, s.rowFQ]
    have e1 : decide (s.tag < dyM true) = true := decide_eq_true h2.tag
    have e2 : decide (s.val < dyM true) = true := decide_eq_true h2.val
    rw [e1, e2]; rfl

/-- The number that stands there. -/
def dyG (l : List UInt8) (wide big : Bool) (q : Nat) : Nat := getB ((l.drop q).take (dyW wide)) big
theorem dyG_lt (l : List UInt8) (wide big : Bool) (q : Nat) : dyG l wide big q < dyM wide := by
  rw [← dyM_pow]
  refine Nat.lt_of_lt_of_le (getB_lt _ big) (Nat.pow_le_pow_right (by decide) ?_)
  simp only [List.length_take]
  omega
/-- The entry that stands there. -/
def dyOf (l : List UInt8) (p : Nat) (wide big : Bool) : Dy := ⟨dyG l wide big p, dyG l wide big (p + dyW wide)⟩
theorem nums_dy (l : List UInt8) (p : Nat) (wide big : Bool) : nums l big p (dyRow wide) = [(dyOf l p wide big).tag, (dyOf l p wide big).val] := rfl
theorem dyOf_ok (l : List UInt8) (p : Nat) (wide big : Bool) : (dyOf l p wide big).Ok :=
  ⟨Nat.lt_of_lt_of_le (dyG_lt l wide big p) (dyM_le wide), Nat.lt_of_lt_of_le (dyG_lt l wide big _) (dyM_le wide)⟩
theorem dyG_sub (l : List UInt8) (p q s : Nat) (wide big : Bool) (h : q + dyW wide ≤ s) : dyG ((l.drop p).take s) wide big q = dyG l wide big (p + q) := by
  unfold dyG
  rw [List.drop_take, List.take_take, Nat.min_eq_left (by omega), List.drop_drop]
/-- Of the bytes of one alone the same is told. -/
theorem dyOf_sub (l : List UInt8) (p : Nat) (wide big : Bool) : dyOf ((l.drop p).take (dySize wide)) 0 wide big = dyOf l p wide big := by
  unfold dyOf
  have h0 : 0 + dyW wide ≤ dySize wide := by unfold dySize; omega
  have h1 : dyW wide + dyW wide ≤ dySize wide := by unfold dySize; omega
  rw [Nat.zero_add, dyG_sub l p 0 _ wide big h0, dyG_sub l p (dyW wide) _ wide big h1, Nat.add_zero]

/-- The first k entries of bytes. -/
def dynTo (l : List UInt8) (wide big : Bool) (k : Nat) : List Dy := (List.range k).map fun i => dyOf l (i * dySize wide) wide big
theorem dynTo_len (l : List UInt8) (wide big : Bool) (k : Nat) : (dynTo l wide big k).length = k := by simp [dynTo]
theorem dynTo_succ (l : List UInt8) (wide big : Bool) (k : Nat) : dynTo l wide big (k + 1) = dynTo l wide big k ++ [dyOf l (k * dySize wide) wide big] := by
  simp [dynTo, List.range_succ]

/-- Reading ends at entry k: it isn't whole, or its Tag is 0. -/
def dyAt (l : List UInt8) (wide big : Bool) (k : Nat) : Bool := decide (l.length < k * dySize wide + dySize wide) || (dyOf l (k * dySize wide) wide big).tag == 0
/-- How many entries there are ahead of that. -/
def dyK (l : List UInt8) (wide big : Bool) : Nat := (List.range (l.length + 1)).findIdx (dyAt l wide big)
/-- There is one of Tag 0. -/
def dyIn (l : List UInt8) (wide big : Bool) : Bool := decide (dyK l wide big * dySize wide + dySize wide ≤ l.length)
/-- The entries. -/
def dyns (l : List UInt8) (wide big : Bool) : List Dy := dynTo l wide big (dyK l wide big)

theorem dyK_spec (l : List UInt8) (wide big : Bool) : dyAt l wide big (dyK l wide big) = true ∧ ∀ j, j < dyK l wide big → dyAt l wide big j = false := by
  have h : (List.range (l.length + 1)).findIdx (dyAt l wide big) < (List.range (l.length + 1)).length := by
    rw [List.findIdx_lt_length]
    refine ⟨l.length, by simp, ?_⟩
    have : l.length * 1 ≤ l.length * dySize wide := Nat.mul_le_mul_left _ (dySize_pos wide)
    have := dySize_pos wide
    rw [dyAt, decide_eq_true (by omega), Bool.true_or]
  refine ⟨?_, fun j hj => ?_⟩
  · have := List.findIdx_getElem (w := h)
    rwa [List.getElem_range] at this
  · have := List.not_of_lt_findIdx (xs := List.range (l.length + 1)) (p := dyAt l wide big) hj
    rw [List.getElem_range] at this
    simpa using this
theorem dyK_is {l : List UInt8} {wide big : Bool} {k : Nat} (h : dyAt l wide big k = true) (h2 : ∀ j, j < k → dyAt l wide big j = false) : dyK l wide big = k := by
  obtain ⟨h3, h4⟩ := dyK_spec l wide big
  rcases Nat.lt_trichotomy (dyK l wide big) k with h5 | h5 | h5
  · rw [h2 _ h5] at h3; cases h3
  · exact h5
  · rw [h4 _ h5] at h; cases h
/-- What one step of reading tells. -/
theorem dy_step (l : List UInt8) (wide big : Bool) (k : Nat) (hk : k ≤ dyK l wide big) :
    (l.length < k * dySize wide + dySize wide → dyK l wide big = k ∧ dyIn l wide big = false) ∧
    (k * dySize wide + dySize wide ≤ l.length → (dyOf l (k * dySize wide) wide big).tag = 0 → dyK l wide big = k ∧ dyIn l wide big = true) ∧
    (k * dySize wide + dySize wide ≤ l.length → (dyOf l (k * dySize wide) wide big).tag ≠ 0 → k + 1 ≤ dyK l wide big) := by
  obtain ⟨h3, h4⟩ := dyK_spec l wide big
  have key : dyAt l wide big k = true → dyK l wide big = k := fun h => dyK_is h fun j hj => h4 j (by omega)
  refine ⟨fun h => ?_, fun h h0 => ?_, fun h h0 => ?_⟩
  · have e := key (by rw [dyAt, decide_eq_true h, Bool.true_or])
    exact ⟨e, by rw [dyIn, e]; exact decide_eq_false (by omega)⟩
  · have e := key (by rw [dyAt, h0]; simp)
    exact ⟨e, by rw [dyIn, e]; exact decide_eq_true h⟩
  · rcases Nat.lt_or_ge k (dyK l wide big) with h5 | h5
    · exact h5
    · obtain rfl : k = dyK l wide big := by omega
      rw [dyAt, decide_eq_false (by omega), Bool.false_or] at h3
      exact absurd (by simpa using h3) h0
theorem dyK_le (l : List UInt8) (wide big : Bool) : dyK l wide big * dySize wide ≤ l.length := by
  rcases Nat.eq_zero_or_pos (dyK l wide big) with h | h
  · rw [h]; omega
  · obtain ⟨k, hk⟩ : ∃ k, dyK l wide big = k + 1 := ⟨dyK l wide big - 1, by omega⟩
    have := (dyK_spec l wide big).2 k (by omega)
    simp only [dyAt, Bool.or_eq_false_iff, decide_eq_false_iff_not] at this
    rw [hk, Nat.succ_mul]
    omega

/-- What stands there is the entry whose bytes they are. -/
theorem dyOf_put (s : Dy) (wide big : Bool) (pre post : List UInt8) (h : rowF (s.Q wide) = true) : dyOf (pre ++ rowB big (s.Q wide) ++ post) pre.length wide big = s := by
  have := nums_rowB big post (s.Q wide) pre h
  rw [s.sndQ, s.fstQ, nums_dy] at this
  injection this with h1 h2
  injection h2 with h2 _
  have : ∀ a b : Dy, a.tag = b.tag → a.val = b.val → a = b := by
    rintro ⟨a, b⟩ ⟨c, d⟩ rfl rfl; rfl
  exact this _ _ h1 h2
theorem dyOf_at (L : List Dy) (wide big : Bool) (post : List UInt8) (h : rowF (dynQ wide L) = true) (k : Nat) (hk : k < L.length) : dyOf (rowB big (dynQ wide L) ++ post) (k * dySize wide) wide big = L[k] := by
  have hp : (rowB big (dynQ wide (L.take k))).length = k * dySize wide := by rw [dynL_len, List.length_take, Nat.min_eq_left (by omega)]
  have := dyOf_put L[k] wide big (rowB big (dynQ wide (L.take k))) (rowB big (dynQ wide (L.drop (k + 1))) ++ post) (dyn_fit hk h)
  rw [hp] at this
  rw [dynQ_split wide L k hk, rowB_append, rowB_append]
  simpa only [List.append_assoc] using this
theorem num_zero : ∀ n, num (List.replicate n 0) = 0
  | 0 => rfl
  | n + 1 => by simp [List.replicate_succ, num, num_zero n]
theorem getB_zero (n : Nat) (big : Bool) : getB (List.replicate n 0) big = 0 := by cases big <;> simp [getB, ord, num_zero]
/-- The number of entries of a list ahead of the first one of Tag 0. -/
def firstZ (L : List Dy) : Nat := L.findIdx (fun s => s.tag == 0)
theorem firstZ_le (L : List Dy) : firstZ L ≤ L.length := List.findIdx_le_length
theorem firstZ_not (L : List Dy) (k : Nat) (hk : k < L.length) (h : k < firstZ L) : L[k].tag ≠ 0 := by
  have := List.not_of_lt_findIdx (xs := L) (p := fun s : Dy => s.tag == 0) h
  simpa using this
theorem firstZ_at (L : List Dy) (h : firstZ L < L.length) : L[firstZ L].tag = 0 := by
  have : ((fun s : Dy => s.tag == 0) L[firstZ L]) = true := List.findIdx_getElem (xs := L) (p := fun s : Dy => s.tag == 0) (w := h)
  exact eq_of_beq this
theorem firstZ_is {L : List Dy} {k : Nat} (hk : k ≤ firstZ L) : (L.length ≤ k → firstZ L = k) ∧ (∀ h : k < L.length, L[k].tag = 0 → firstZ L = k) ∧ (∀ h : k < L.length, L[k].tag ≠ 0 → k + 1 ≤ firstZ L) := by
  refine ⟨fun h => ?_, fun h h0 => ?_, fun h h0 => ?_⟩
  · have := firstZ_le L; omega
  · rcases Nat.lt_or_ge k (firstZ L) with h5 | h5
    · exact absurd h0 (firstZ_not L k h h5)
    · omega
  · rcases Nat.lt_or_ge k (firstZ L) with h5 | h5
    · exact h5
    · obtain rfl : k = firstZ L := by omega
      exact absurd (firstZ_at L h) h0
theorem dyn_mul {a b : Nat} (wide : Bool) (h : a < b) : a * dySize wide + dySize wide ≤ b * dySize wide := by
  have : (a + 1) * dySize wide ≤ b * dySize wide := Nat.mul_le_mul_right _ h
  rwa [Nat.succ_mul] at this
/-- What was put, with 0s behind it and anything behind these: it is got, up to the first one of Tag 0. -/
theorem dyns_zeros (L : List Dy) (wide big : Bool) (post : List UInt8) (h : rowF (dynQ wide L) = true) :
    dyIn (rowB big (dynQ wide L) ++ List.replicate 16 0 ++ post) wide big = true ∧ dyns (rowB big (dynQ wide L) ++ List.replicate 16 0 ++ post) wide big = L.take (firstZ L) ∧ dyK (rowB big (dynQ wide L) ++ List.replicate 16 0 ++ post) wide big = firstZ L := by
  have hs := dySize_le wide
  have hlen : (rowB big (dynQ wide L) ++ List.replicate 16 0 ++ post).length = L.length * dySize wide + 16 + post.length := by
    simp only [List.length_append, dynL_len, List.length_replicate]
  have hat : ∀ k (hk : k < L.length), dyOf (rowB big (dynQ wide L) ++ List.replicate 16 0 ++ post) (k * dySize wide) wide big = L[k] := fun k hk => by
    rw [List.append_assoc]; exact dyOf_at L wide big _ h k hk
  have hz : (dyOf (rowB big (dynQ wide L) ++ List.replicate 16 0 ++ post) (L.length * dySize wide) wide big).tag = 0 := by
    show dyG _ wide big _ = 0
    unfold dyG
    rw [← dynL_len wide big L, List.append_assoc, List.drop_append_of_le_length (Nat.le_refl _), List.drop_length, List.nil_append,
      List.take_append_of_le_length (by rw [List.length_replicate]; cases wide <;> decide), List.take_replicate]
    exact getB_zero _ _
  have hf := firstZ_le L
  have hKk : dyK (rowB big (dynQ wide L) ++ List.replicate 16 0 ++ post) wide big = firstZ L := by
    refine dyK_is ?_ fun j hj => ?_
    · have h0 : (dyOf (rowB big (dynQ wide L) ++ List.replicate 16 0 ++ post) (firstZ L * dySize wide) wide big).tag = 0 := by
        rcases Nat.lt_or_ge (firstZ L) L.length with h1 | h1
        · rw [hat _ h1]; exact firstZ_at L h1
        · rw [show firstZ L = L.length by omega]; exact hz
      rw [dyAt, h0]; simp
    · have h1 : j < L.length := by omega
      have := dyn_mul wide h1
      rw [dyAt, hat j h1, decide_eq_false (by omega), Bool.false_or]
      simpa using firstZ_not L j h1 hj
  have hin : firstZ L * dySize wide ≤ L.length * dySize wide := Nat.mul_le_mul_right _ hf
  refine ⟨by rw [dyIn, hKk]; exact decide_eq_true (by omega), ?_, hKk⟩
  rw [dyns, hKk]
  apply List.ext_getElem
  · rw [dynTo_len, List.length_take, Nat.min_eq_left hf]
  · intro k h1 h2
    rw [dynTo_len] at h1
    simp only [dynTo, List.getElem_map, List.getElem_range, List.getElem_take]
    exact hat k (by omega)
/-- Without the 0s it is got just where one is of Tag 0. -/
theorem dyns_bare (L : List Dy) (wide big : Bool) (h : rowF (dynQ wide L) = true) : dyIn (rowB big (dynQ wide L)) wide big = decide (firstZ L < L.length) := by
  have hlen : (rowB big (dynQ wide L)).length = L.length * dySize wide := dynL_len wide big L
  have hat : ∀ k (hk : k < L.length), dyOf (rowB big (dynQ wide L)) (k * dySize wide) wide big = L[k] := fun k hk => by
    have := dyOf_at L wide big [] h k hk
    rwa [List.append_nil] at this
  have hf := firstZ_le L
  have hp := dySize_pos wide
  have hKk : dyK (rowB big (dynQ wide L)) wide big = firstZ L := by
    refine dyK_is ?_ fun j hj => ?_
    · rcases Nat.lt_or_ge (firstZ L) L.length with h1 | h1
      · rw [dyAt, hat _ h1, firstZ_at L h1]; simp
      · rw [dyAt, decide_eq_true (by rw [hlen, show firstZ L = L.length by omega]; omega), Bool.true_or]
    · have h1 : j < L.length := by omega
      have := dyn_mul wide h1
      rw [dyAt, hat j h1, decide_eq_false (by omega), Bool.false_or]
      simpa using firstZ_not L j h1 hj
  rw [dyIn, hKk, hlen]
  rcases Nat.lt_or_ge (firstZ L) L.length with h1 | h1
  · have := dyn_mul wide h1
    rw [decide_eq_true h1]
    exact decide_eq_true (by omega)
  · have e : firstZ L = L.length := by omega
    rw [e, decide_eq_false (Nat.lt_irrefl _)]
    exact decide_eq_false (by omega)

/-- What Find tells. -/
def dyF : List Dy → Nat → Nat × Bool
  | [], _ => (0, false)
  | s :: r, t => if s.tag == t then (s.val, true) else dyF r t
theorem dyF_at {L : List Dy} {k t : Nat} (h : k < L.length) : (L[k].tag = t → dyF (L.drop k) t = (L[k].val, true)) ∧ (L[k].tag ≠ t → dyF (L.drop (k + 1)) t = dyF (L.drop k) t) := by
  rw [List.drop_eq_getElem_cons h]
  constructor
  · intro e
    simp [dyF, e]
  · intro e
    simp [dyF, e]
theorem dyF_end (L : List Dy) (k t : Nat) (h : L.length ≤ k) : dyF (L.drop k) t = (0, false) := by rw [List.drop_eq_nil_of_le h]; rfl

/-- The bytes of the first k. -/
def dyP (L : List Dy) (wide big : Bool) (k : Nat) : List UInt8 := rowB big (dynQ wide (L.take k))
theorem dyP_len (L : List Dy) (wide big : Bool) (k : Nat) (h : k ≤ L.length) : (dyP L wide big k).length = k * dySize wide := by
  rw [dyP, dynL_len, List.length_take, Nat.min_eq_left h]
theorem dyP_succ (L : List Dy) (wide big : Bool) (k : Nat) (h : k < L.length) : dyP L wide big (k + 1) = dyP L wide big k ++ rowB big (L[k].Q wide) := by rw [dyP, dynQ_snoc _ _ _ h, rowB_append]; rfl
theorem dyF_succ (L : List Dy) (wide : Bool) (k : Nat) (h : k < L.length) : rowF (dynQ wide (L.take (k + 1))) = (rowF (dynQ wide (L.take k)) && rowF (L[k].Q wide)) := by rw [dynQ_snoc _ _ _ h, rowF_append]
end Go.Proofs.Ytlnadlhajjcaoaa
