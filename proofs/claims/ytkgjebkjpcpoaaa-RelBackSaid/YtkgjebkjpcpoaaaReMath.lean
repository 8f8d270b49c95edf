/-
  Plain words of layer 9: relocations, their numbers and bytes, and what is told of any bytes. No program's function is spoken of here.
-/
import Derived.Test.YtkgjebkjpcpoaaaForm
namespace Go.Proofs.Ytkgjebkjpcpoaaa
open Go.RowKit

/-- A relocation. -/
structure Re where
  off : Nat
  sym : Nat
  ty : Nat
  add : Int
/-- Its fields have the sizes of their types. -/
structure Re.Ok (p : Re) : Prop where
  off : p.off < 18446744073709551616
  sym : p.sym < 4294967296
  ty : p.ty < 4294967296
  lo : -9223372036854775808 ≤ p.add
  hi : p.add < 9223372036854775808

def Re.C (p : Re) : Array Value := #[.int .u64 (p.off : Int), .int .u32 (p.sym : Int), .int .u32 (p.ty : Int), .int .i64 p.add]
def Re.V (p : Re) : Value := .agg p.C
def re0 : Re := ⟨0, 0, 0, 0⟩
theorem Re.one (p : Re) : p.C.all (·.oneCell') = true := by simp [Re.C, Value.oneCell']
/-- How many bytes a number has. -/
def reW (wide : Bool) : Nat := byWide wide 4 8
/-- How many numbers it has. -/
def reN (adds : Bool) : Nat := if adds then 3 else 2
def reSize (wide adds : Bool) : Nat := reN adds * reW wide
/-- Of how many bytes its numbers are. -/
def reRow (wide adds : Bool) : List Nat := if adds then [reW wide, reW wide, reW wide] else [reW wide, reW wide]
/-- What Sym is times. -/
def reK (wide : Bool) : Nat := byWide wide 256 4294967296
/-- One more than the greatest number. -/
def reM (wide : Bool) : Nat := byWide wide 4294967296 18446744073709551616
theorem len_reRow (wide adds : Bool) : (reRow wide adds).length = reN adds := by cases adds <;> rfl
theorem sum_reRow (wide adds : Bool) : sumN (reRow wide adds) = reSize wide adds := by cases wide <;> cases adds <;> rfl
theorem reSize_pos (wide adds : Bool) : 0 < reSize wide adds := by cases wide <;> cases adds <;> decide
theorem reSize_le (wide adds : Bool) : reSize wide adds ≤ 24 := by cases wide <;> cases adds <;> decide
theorem reSize_8 (wide adds : Bool) : 8 ≤ reSize wide adds := by cases wide <;> cases adds <;> decide

/-- Sym and Type, as one number. -/
def Re.both (p : Re) (wide : Bool) : Nat := reK wide * p.sym + p.ty
/-- Add, as a number of two's complement. -/
def Re.ad (p : Re) (wide : Bool) : Nat := (p.add % (reM wide : Nat)).toNat
/-- It may be. -/
def Re.May (p : Re) (wide adds : Bool) : Bool :=
  (adds || p.add == 0) && (wide || (decide (p.off < 4294967296) && decide (p.sym < 16777216) && decide (p.ty < 256) && decide (-2147483648 ≤ p.add) && decide (p.add ≤ 2147483647)))
/-- Its numbers, each with how many bytes it has. -/
def Re.Q (p : Re) (wide adds : Bool) : List (Nat × Nat) :=
  if adds then [(p.off, reW wide), (p.both wide, reW wide), (p.ad wide, reW wide)] else [(p.off, reW wide), (p.both wide, reW wide)]
theorem Re.lenQ (p : Re) (wide adds : Bool) : (p.Q wide adds).length = reN adds := by cases adds <;> rfl
theorem Re.sndQ (p : Re) (wide adds : Bool) : (p.Q wide adds).map (·.2) = reRow wide adds := by cases adds <;> rfl
theorem Re.lenR (p : Re) (wide adds big : Bool) : (rowB big (p.Q wide adds)).length = reSize wide adds := by rw [length_rowB, p.sndQ, sum_reRow]

/-- The numbers of relocations, one behind the other. -/
def relQ (wide adds : Bool) (l : List Re) : List (Nat × Nat) := l.flatMap (·.Q wide adds)
/-- All of them may be. -/
def mays (wide adds : Bool) (l : List Re) : Bool := l.all (·.May wide adds)
theorem relQ_snoc (wide adds : Bool) (l : List Re) (k : Nat) (h : k < l.length) : relQ wide adds (l.take (k + 1)) = relQ wide adds (l.take k) ++ l[k].Q wide adds := by
  unfold relQ
  rw [List.take_succ_eq_append_getElem h, List.flatMap_append, List.flatMap_cons, List.flatMap_nil, List.append_nil]
theorem mays_snoc (wide adds : Bool) (l : List Re) (k : Nat) (h : k < l.length) : mays wide adds (l.take (k + 1)) = (mays wide adds (l.take k) && l[k].May wide adds) := by
  unfold mays
  rw [List.take_succ_eq_append_getElem h, List.all_append, List.all_cons, List.all_nil, Bool.and_true]
theorem mays_not {wide adds : Bool} {l : List Re} {k : Nat} (h : k < l.length) (hf : l[k].May wide adds = false) : mays wide adds l = false := by
  rw [Bool.eq_false_iff]
  intro ht
  have := List.all_eq_true.1 ht _ (List.getElem_mem h)
  rw [hf] at this
  cases this
/-- How many bytes they have. -/
theorem relL_len (wide adds big : Bool) : ∀ l : List Re, (rowB big (relQ wide adds l)).length = l.length * reSize wide adds
  | [] => by simp [relQ, rowB]
  | s :: l => by
    have := relL_len wide adds big l
    simp only [relQ, List.flatMap_cons, rowB_append, List.length_append, s.lenR, List.length_cons] at *
    rw [this, Nat.succ_mul]; omega
theorem relL_mod (wide adds big : Bool) (L : List Re) : (rowB big (relQ wide adds L)).length % reSize wide adds = 0 := by rw [relL_len, Nat.mul_mod_left]

theorem Re.both_lt (p : Re) (ok : p.Ok) (wide : Bool) : p.both wide < 18446744073709551616 := by
  obtain ⟨-, h1, h2, -, -⟩ := ok
  unfold Re.both reK
  cases wide <;> simp only [byWide, if_true, Bool.false_eq_true, if_false] <;> omega
theorem Re.ad_lt (p : Re) (wide : Bool) : p.ad wide < reM wide := by
  unfold Re.ad reM
  cases wide <;> simp only [byWide, if_true, Bool.false_eq_true, if_false] <;> omega
theorem Re.mayN {p : Re} {adds : Bool} (h : p.May false adds = true) : p.off < 4294967296 ∧ p.sym < 16777216 ∧ p.ty < 256 ∧ -2147483648 ≤ p.add ∧ p.add ≤ 2147483647 := by
  simp only [Re.May, Bool.false_or, Bool.and_eq_true, decide_eq_true_eq] at h
  obtain ⟨_, ⟨⟨⟨h1, h2⟩, h3⟩, h4⟩, h5⟩ := h
  exact ⟨h1, h2, h3, h4, h5⟩
theorem Re.mayZ {p : Re} {wide : Bool} (h : p.May wide false = true) : p.add = 0 := by
  simp only [Re.May, Bool.false_or, Bool.and_eq_true, beq_iff_eq] at h
  exact h.1
theorem reM_pow (wide : Bool) : 256 ^ reW wide = reM wide := by cases wide <;> rfl
theorem Re.fits {p : Re} (ok : p.Ok) {wide adds : Bool} (h : p.May wide adds = true) : rowF (p.Q wide adds) = true := by
  have h1 : p.off < 256 ^ reW wide ∧ p.both wide < 256 ^ reW wide := by
    rw [reM_pow]
    cases wide
    · obtain ⟨k1, k2, k3, -, -⟩ := Re.mayN h
      simp only [Re.both, reM, reK, byWide, Bool.false_eq_true, if_false]
      omega
    · exact ⟨ok.off, p.both_lt ok true⟩
  have h2 : p.ad wide < 256 ^ reW wide := by rw [reM_pow]; exact p.ad_lt wide
  cases adds
  · simp [Re.Q, rowF, h1.1, h1.2]
  · simp [Re.Q, rowF, h1.1, h1.2, h2]
theorem mays_fit {wide adds : Bool} : ∀ {l : List Re}, (∀ s ∈ l, s.Ok) → mays wide adds l = true → rowF (relQ wide adds l) = true
  | [], _, _ => rfl
  | s :: l, hok, h => by
    simp only [mays, List.all_cons, Bool.and_eq_true] at h
    have := mays_fit (fun x hx => hok x (by simp [hx])) h.2
    simp only [relQ, List.flatMap_cons, rowF_append] at *
    rw [this, Re.fits (hok s (by simp)) h.1]; rfl

/-- A number of two's complement. -/
def sg (wide : Bool) (v : Nat) : Int := if v < byWide wide 2147483648 9223372036854775808 then (v : Int) else (v : Int) - (reM wide : Nat)
/-- The relocation that has these numbers. -/
def ofN (wide adds : Bool) (x : List Nat) : Re := ⟨x.getD 0 0, x.getD 1 0 / reK wide, x.getD 1 0 % reK wide, if adds then sg wide (x.getD 2 0) else 0⟩
/-- The relocation that stands there. -/
def reOf (l : List UInt8) (p : Nat) (wide adds big : Bool) : Re := ofN wide adds (nums l big p (reRow wide adds))

theorem ofN_Q {p : Re} (ok : p.Ok) {wide adds : Bool} (h : p.May wide adds = true) : ofN wide adds ((p.Q wide adds).map (·.1)) = p := by
  obtain ⟨off, sym, ty, add⟩ := p
  obtain ⟨k1, k2, k3, k4, k5⟩ := ok
  simp only [] at k1 k2 k3 k4 k5
  have hs : adds = true → sg wide (Re.ad ⟨off, sym, ty, add⟩ wide) = add := by
    rintro rfl
    cases wide
    · obtain ⟨-, -, -, k6, k7⟩ := Re.mayN h
      simp only [] at k6 k7
      simp only [sg, Re.ad, reM, byWide, Bool.false_eq_true, if_false]
      split <;> omega
    · simp only [sg, Re.ad, reM, byWide, if_true]
      split <;> omega
  have hb : Re.both ⟨off, sym, ty, add⟩ wide / reK wide = sym ∧ Re.both ⟨off, sym, ty, add⟩ wide % reK wide = ty := by
    cases wide
    · obtain ⟨-, -, k6, -, -⟩ := Re.mayN h
      simp only [] at k6
      simp only [Re.both, reK, byWide, Bool.false_eq_true, if_false]
      omega
    · simp only [Re.both, reK, byWide, if_true]
      omega
  cases adds
  · obtain rfl : add = 0 := Re.mayZ h
    simp [ofN, Re.Q, hb.1, hb.2]
  · simp [ofN, Re.Q, hb.1, hb.2, hs rfl]
theorem ofN_lt {wide adds : Bool} {x : List Nat} (hl : x.length = reN adds) (h : ∀ k (h : k < x.length), x[k] < reM wide) : ∃ x0 x1 x2 : Nat, x = (if adds then [x0, x1, x2] else [x0, x1]) ∧ x0 < reM wide ∧ x1 < reM wide ∧ x2 < reM wide := by
  cases adds
  · obtain ⟨x0, x1, rfl⟩ := list2 hl
    exact ⟨x0, x1, 0, rfl, h 0 (by simp), h 1 (by simp), by cases wide <;> decide⟩
  · obtain ⟨x0, x1, x2, rfl⟩ := list3 hl
    exact ⟨x0, x1, x2, rfl, h 0 (by simp), h 1 (by simp), h 2 (by simp)⟩
theorem ofN_of (wide adds : Bool) (x0 x1 x2 : Nat) : ofN wide adds (if adds then [x0, x1, x2] else [x0, x1]) = ⟨x0, x1 / reK wide, x1 % reK wide, if adds then sg wide x2 else 0⟩ := by cases adds <;> rfl
/-- What numbers that fit are, may be; and its numbers are those. -/
theorem ofN_back {wide adds : Bool} {x0 x1 x2 : Nat} (h0 : x0 < reM wide) (h1 : x1 < reM wide) (h2 : x2 < reM wide) :
    (Re.mk x0 (x1 / reK wide) (x1 % reK wide) (if adds then sg wide x2 else 0)).Ok ∧ (Re.mk x0 (x1 / reK wide) (x1 % reK wide) (if adds then sg wide x2 else 0)).May wide adds = true ∧
    (Re.mk x0 (x1 / reK wide) (x1 % reK wide) (if adds then sg wide x2 else 0)).Q wide adds = (if adds then [x0, x1, x2] else [x0, x1]).zip (reRow wide adds) := by
  have hs : adds = true → Re.ad ⟨x0, x1 / reK wide, x1 % reK wide, sg wide x2⟩ wide = x2 := by
    intro _
    cases wide
    · simp only [sg, Re.ad, reM, byWide, Bool.false_eq_true, if_false] at *
      split <;> omega
    · simp only [sg, Re.ad, reM, byWide, if_true] at *
      split <;> omega
  have hb : ∀ a, Re.both ⟨x0, x1 / reK wide, x1 % reK wide, a⟩ wide = x1 := by
    intro a
    cases wide
    · simp only [Re.both, reK, byWide, Bool.false_eq_true, if_false]
      omega
    · simp only [Re.both, reK, byWide, if_true]
      omega
  refine ⟨?_, ?_, ?_⟩
  · cases wide
    · simp only [sg, reM, reK, byWide, Bool.false_eq_true, if_false] at *
      constructor <;> simp only [] <;> (try split) <;> (try split) <;> omega
    · simp only [sg, reM, reK, byWide, if_true] at *
      constructor <;> simp only [] <;> (try split) <;> (try split) <;> omega
  · have hz : (adds || ((if adds then sg wide x2 else 0) == 0)) = true := by cases adds <;> rfl
    simp only [Re.May, hz, Bool.true_and]
    cases wide
    · simp only [sg, reM, reK, byWide, Bool.false_eq_true, if_false, Bool.false_or, Bool.and_eq_true, decide_eq_true_eq] at *
      refine ⟨⟨⟨⟨?_, ?_⟩, ?_⟩, ?_⟩, ?_⟩ <;> (try split) <;> (try split) <;> omega
    · rfl
  · cases adds
    · simp [Re.Q, hb, reRow]
    · simp [Re.Q, hb, hs rfl, reRow]
/-- What stands there: its numbers, and what it is. -/
theorem reOf_nums (l : List UInt8) (p : Nat) (wide adds big : Bool) : ∃ x0 x1 x2 : Nat, nums l big p (reRow wide adds) = (if adds then [x0, x1, x2] else [x0, x1]) ∧ x0 < reM wide ∧ x1 < reM wide ∧ x2 < reM wide ∧
    reOf l p wide adds big = ⟨x0, x1 / reK wide, x1 % reK wide, if adds then sg wide x2 else 0⟩ := by
  have hl : (nums l big p (reRow wide adds)).length = reN adds := by rw [length_nums, len_reRow]
  obtain ⟨x0, x1, x2, hx, h0, h1, h2⟩ := ofN_lt (wide := wide) hl fun k hk => by
    refine Nat.lt_of_lt_of_le (nums_lt l big (reRow wide adds) p k hk) ?_
    rw [← reM_pow]
    refine Nat.pow_le_pow_right (by decide) ?_
    rw [hl] at hk
    cases adds
    · match k, hk with
      | 0, _ => exact Nat.le_refl _
      | 1, _ => exact Nat.le_refl _
    · match k, hk with
      | 0, _ => exact Nat.le_refl _
      | 1, _ => exact Nat.le_refl _
      | 2, _ => exact Nat.le_refl _
  refine ⟨x0, x1, x2, hx, h0, h1, h2, ?_⟩
  rw [reOf, hx, ofN_of]
theorem reOf_ok (l : List UInt8) (p : Nat) (wide adds big : Bool) : (reOf l p wide adds big).Ok ∧ (reOf l p wide adds big).May wide adds = true ∧ (reOf l p wide adds big).Q wide adds = (nums l big p (reRow wide adds)).zip (reRow wide adds) := by
  obtain ⟨x0, x1, x2, hx, h0, h1, h2, e⟩ := reOf_nums l p wide adds big
  rw [e, hx]
  exact ofN_back h0 h1 h2

theorem nums_dropR (l : List UInt8) (big : Bool) (p : Nat) : ∀ (r : List Nat) (q : Nat), nums (l.drop p) big q r = nums l big (p + q) r
  | [], _ => rfl
  | n :: r, q => by simp only [nums, List.drop_drop, nums_dropR l big p r (q + n), Nat.add_assoc]
theorem nums_takeR (l : List UInt8) (big : Bool) (s : Nat) : ∀ (r : List Nat) (q : Nat), q + sumN r ≤ s → nums (l.take s) big q r = nums l big q r
  | [], _, _ => rfl
  | n :: r, q, h => by
    simp only [sumN] at h
    simp only [nums, nums_takeR l big s r (q + n) (by omega)]
    rw [List.drop_take, List.take_take, Nat.min_eq_left (by omega)]
/-- Of the bytes of one alone the same is told. -/
theorem reOf_sub (l : List UInt8) (p : Nat) (wide adds big : Bool) : reOf ((l.drop p).take (reSize wide adds)) 0 wide adds big = reOf l p wide adds big := by
  unfold reOf
  rw [nums_takeR _ _ _ _ _ (by rw [sum_reRow]; omega), nums_dropR, Nat.add_zero]

/-- The first k relocations of bytes. -/
def relsTo (l : List UInt8) (wide adds big : Bool) (k : Nat) : List Re := (List.range k).map fun i => reOf l (i * reSize wide adds) wide adds big
theorem relsTo_len (l : List UInt8) (wide adds big : Bool) (k : Nat) : (relsTo l wide adds big k).length = k := by simp [relsTo]
theorem relsTo_succ (l : List UInt8) (wide adds big : Bool) (k : Nat) : relsTo l wide adds big (k + 1) = relsTo l wide adds big k ++ [reOf l (k * reSize wide adds) wide adds big] := by
  simp [relsTo, List.range_succ]
theorem relsTo_ok (l : List UInt8) (wide adds big : Bool) (k : Nat) : ∀ s ∈ relsTo l wide adds big k, s.Ok := fun s hs => by
  obtain ⟨i, _, rfl⟩ := List.mem_map.1 hs
  exact (reOf_ok _ _ _ _ _).1
theorem relsTo_may (l : List UInt8) (wide adds big : Bool) (k : Nat) : mays wide adds (relsTo l wide adds big k) = true := by
  refine List.all_eq_true.2 fun s hs => ?_
  obtain ⟨i, _, rfl⟩ := List.mem_map.1 hs
  exact (reOf_ok _ _ _ _ _).2.1
/-- All relocations of bytes. -/
def rels (l : List UInt8) (wide adds big : Bool) : List Re := relsTo l wide adds big (l.length / reSize wide adds)
/-- What is got, put, is those bytes. -/
theorem relsTo_back (l : List UInt8) (wide adds big : Bool) : ∀ k, k * reSize wide adds ≤ l.length → rowB big (relQ wide adds (relsTo l wide adds big k)) = l.take (k * reSize wide adds)
  | 0, _ => by simp [relsTo, relQ, rowB]
  | k + 1, h => by
    rw [Nat.succ_mul] at h
    have ih := relsTo_back l wide adds big k (by omega)
    rw [relsTo_succ]
    simp only [relQ, List.flatMap_append, rowB_append, List.flatMap_cons, List.flatMap_nil, List.append_nil] at *
    rw [ih, (reOf_ok _ _ _ _ _).2.2, rowB_nums l big (reRow wide adds) _ (by rw [sum_reRow]; omega), sum_reRow, Nat.succ_mul, List.take_add]
theorem rels_back (l : List UInt8) (wide adds big : Bool) (h : l.length % reSize wide adds = 0) : rowB big (relQ wide adds (rels l wide adds big)) = l := by
  have e : l.length / reSize wide adds * reSize wide adds = l.length := by
    have := Nat.div_add_mod l.length (reSize wide adds)
    rw [h, Nat.mul_comm] at this
    omega
  rw [rels, relsTo_back l wide adds big _ (by rw [e]; exact Nat.le_refl _), e, List.take_length]
/-- What stands there is the relocation whose bytes they are. -/
theorem reOf_put (s : Re) (ok : s.Ok) (wide adds big : Bool) (pre post : List UInt8) (h : s.May wide adds = true) : reOf (pre ++ rowB big (s.Q wide adds) ++ post) pre.length wide adds big = s := by
  have := nums_rowB big post (s.Q wide adds) pre (Re.fits ok h)
  rw [s.sndQ] at this
  rw [reOf, this, ofN_Q ok h]
theorem rels_put (L : List Re) (hok : ∀ s ∈ L, s.Ok) (wide adds big : Bool) (h : mays wide adds L = true) : rels (rowB big (relQ wide adds L)) wide adds big = L := by
  have hl : (rowB big (relQ wide adds L)).length / reSize wide adds = L.length := by rw [relL_len]; exact Nat.mul_div_cancel _ (reSize_pos wide adds)
  rw [rels, hl]
  apply List.ext_getElem
  · rw [relsTo_len]
  · intro k h1 h2
    simp only [relsTo, List.getElem_map, List.getElem_range]
    have e : L = L.take k ++ L[k] :: L.drop (k + 1) := by rw [← List.drop_eq_getElem_cons h2]; exact (List.take_append_drop k L).symm
    have e2 : relQ wide adds L = relQ wide adds (L.take k) ++ (L[k].Q wide adds ++ relQ wide adds (L.drop (k + 1))) := by
      have : relQ wide adds (L.take k ++ L[k] :: L.drop (k + 1)) = relQ wide adds (L.take k) ++ (L[k].Q wide adds ++ relQ wide adds (L.drop (k + 1))) := by
        simp only [relQ, List.flatMap_append, List.flatMap_cons]
      rw [← e] at this
      exact this
    have hm : L[k].May wide adds = true := List.all_eq_true.1 h _ (List.getElem_mem h2)
    have hp : (rowB big (relQ wide adds (L.take k))).length = k * reSize wide adds := by rw [relL_len, List.length_take, Nat.min_eq_left (by omega)]
    rw [e2, rowB_append, rowB_append, ← List.append_assoc, ← hp]
    exact reOf_put _ (hok _ (List.getElem_mem h2)) wide adds big _ _ hm

/-- Bytes of a number are those of what it leaves, divided by the one behind the greatest. -/
theorem putB_mod (v n : Nat) (big : Bool) : putB (v % 256 ^ n) n big = putB v n big := by
  have h := putB_getB (putB v n big) big
  rw [length_putB, getB_putB] at h
  exact h
/-- Add, put as a number of 64 bits. -/
theorem Re.putAdd (p : Re) (wide big : Bool) : putB (p.add % (18446744073709551616 : Nat)).toNat (reW wide) big = putB (p.ad wide) (reW wide) big := by
  rw [← putB_mod (p.add % (18446744073709551616 : Nat)).toNat, reM_pow]
  congr 1
  unfold Re.ad reM
  cases wide <;> simp only [byWide, if_true, Bool.false_eq_true, if_false] <;> omega
end Go.Proofs.Ytkgjebkjpcpoaaa
