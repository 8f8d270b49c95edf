/-
  Plain words of layer 8: symbols, their numbers and bytes, and what is told of any bytes. No program's function is spoken of here.
-/
import Derived.Test.YtodcnlihhilfkaaForm
namespace Go.Proofs.Ytodcnlihhilfkaa
open Go.RowKit

/-- A symbol. -/
structure Sy where
  na : Nat
  inf : Nat
  oth : Nat
  shn : Nat
  val : Nat
  siz : Nat
/-- Its fields have the sizes of their types. -/
structure Sy.Ok (p : Sy) : Prop where
  na : p.na < 4294967296
  inf : p.inf < 256
  oth : p.oth < 256
  shn : p.shn < 65536
  val : p.val < 18446744073709551616
  siz : p.siz < 18446744073709551616

def Sy.C (p : Sy) : Array Value := #[.int .u32 (p.na : Int), .int .u8 (p.inf : Int), .int .u8 (p.oth : Int), .int .u16 (p.shn : Int), .int .u64 (p.val : Int), .int .u64 (p.siz : Int)]
def Sy.V (p : Sy) : Value := .agg p.C
def sy0 : Sy := ⟨0, 0, 0, 0, 0, 0⟩
/-- Its numbers, as they are named. -/
def Sy.N (p : Sy) : List Nat := [p.na, p.inf, p.oth, p.shn, p.val, p.siz]
/-- How many bytes it has. -/
def ySize (wide : Bool) : Nat := byWide wide 16 24
/-- Which numbers stand behind one another. -/
def yOrd (wide : Bool) : List Nat := if wide then [0, 1, 2, 3, 4, 5] else [0, 4, 5, 1, 2, 3]
/-- How many bytes a number has. -/
def yWid (wide : Bool) (i : Nat) : Nat := if ((i : Int) == 1) || ((i : Int) == 2) then 1 else if (i : Int) == 3 then 2 else if (i : Int) == 0 then 4 else byWide wide 4 8
def yRow (wide : Bool) : List Nat := (yOrd wide).map (yWid wide)
theorem Sy.one (p : Sy) : p.C.all (·.oneCell') = true := by simp [Sy.C, Value.oneCell']
theorem Sy.sz (p : Sy) : p.C.size = 6 := rfl
theorem len_yOrd (wide : Bool) : (yOrd wide).length = 6 := by cases wide <;> rfl
theorem len_yRow (wide : Bool) : (yRow wide).length = 6 := by cases wide <;> rfl
theorem sum_yRow (wide : Bool) : sumN (yRow wide) = ySize wide := by cases wide <;> rfl
theorem ySize_pos (wide : Bool) : 0 < ySize wide := by cases wide <;> decide
theorem ySize_le (wide : Bool) : ySize wide ≤ 24 := by cases wide <;> decide
theorem yOrd_lt (wide : Bool) (k : Nat) (h : k < 6) : (yOrd wide).getD k 0 < 6 := by
  cases wide <;> (match k, h with
    | 0, _ => decide
    | 1, _ => decide
    | 2, _ => decide
    | 3, _ => decide
    | 4, _ => decide
    | 5, _ => decide)
theorem yWid_8 (wide : Bool) (i : Nat) : yWid wide i ≤ 8 := by
  unfold yWid
  split
  · omega
  · split
    · omega
    · split
      · omega
      · cases wide <;> decide
theorem yOrd_all (wide : Bool) (i : Nat) (h : i < 6) : i ∈ yOrd wide := by
  cases wide <;> (match i, h with
    | 0, _ => decide
    | 1, _ => decide
    | 2, _ => decide
    | 3, _ => decide
    | 4, _ => decide
    | 5, _ => decide)

/-- The numbers in their order, each with how many bytes it has. -/
def Sy.Q (p : Sy) (wide : Bool) : List (Nat × Nat) := (yOrd wide).map fun i => (p.N.getD i 0, yWid wide i)
theorem Sy.lenQ (p : Sy) (wide : Bool) : (p.Q wide).length = 6 := by simp [Sy.Q, len_yOrd]
theorem Sy.sndQ (p : Sy) (wide : Bool) : (p.Q wide).map (·.2) = yRow wide := by rw [Sy.Q, List.map_map]; rfl
theorem Sy.fstQ (p : Sy) (wide : Bool) : (p.Q wide).map (·.1) = (yOrd wide).map fun i => p.N.getD i 0 := by rw [Sy.Q, List.map_map]; rfl
theorem Sy.atN (p : Sy) (ok : p.Ok) (i : Nat) : p.N.getD i 0 < 18446744073709551616 := by
  obtain ⟨k1, k2, k3, k4, k5, k6⟩ := ok
  match i with
  | 0 => show p.na < _; omega
  | 1 => show p.inf < _; omega
  | 2 => show p.oth < _; omega
  | 3 => show p.shn < _; omega
  | 4 => show p.val < _; omega
  | 5 => show p.siz < _; omega
  | _ + 6 => show 0 < _; omega
theorem Sy.atQ (p : Sy) (wide : Bool) (k : Nat) (h : k < (p.Q wide).length) : (p.Q wide)[k].1 = p.N.getD ((yOrd wide).getD k 0) 0 ∧ (p.Q wide)[k].2 = yWid wide ((yOrd wide).getD k 0) := by
  have hk : k < (yOrd wide).length := by rw [p.lenQ] at h; rw [len_yOrd]; exact h
  simp only [Sy.Q, List.getElem_map]
  rw [List.getD_eq_getElem?_getD (l := yOrd wide), List.getElem?_eq_getElem hk]
  exact ⟨rfl, rfl⟩
theorem Sy.lenR (p : Sy) (wide big : Bool) : (rowB big (p.Q wide)).length = ySize wide := by rw [length_rowB, p.sndQ, sum_yRow]

/-- The numbers of symbols, one behind the other. -/
def symQ (wide : Bool) (l : List Sy) : List (Nat × Nat) := l.flatMap (·.Q wide)
theorem symQ_len (wide : Bool) : ∀ l : List Sy, (symQ wide l).length = 6 * l.length
  | [] => rfl
  | s :: l => by
    have := symQ_len wide l
    simp only [symQ, List.flatMap_cons, List.length_append, s.lenQ, List.length_cons] at *
    omega
theorem symQ_at (wide : Bool) : ∀ (l : List Sy) (k : Nat) (h : k < l.length) (j : Nat), j < 6 → (symQ wide l)[6 * k + j]? = (l[k].Q wide)[j]?
  | [], _, h, _, _ => absurd h (by simp)
  | s :: l, 0, _, j, hj => by
    simp only [symQ, List.flatMap_cons, Nat.mul_zero, Nat.zero_add, List.getElem_cons_zero]
    rw [List.getElem?_append_left (by rw [s.lenQ]; exact hj)]
  | s :: l, k + 1, h, j, hj => by
    have ih := symQ_at wide l k (by simpa using h) j hj
    simp only [symQ, List.flatMap_cons, List.getElem_cons_succ] at *
    rw [List.getElem?_append_right (by rw [s.lenQ]; omega), ← ih, s.lenQ]
    congr 1
    omega
theorem symQ_take (wide : Bool) : ∀ (l : List Sy) (k : Nat), (symQ wide l).take (6 * k) = symQ wide (l.take k)
  | [], k => by simp [symQ]
  | s :: l, 0 => by simp [symQ]
  | s :: l, k + 1 => by
    have ih := symQ_take wide l k
    simp only [symQ, List.flatMap_cons, List.take_succ_cons] at *
    rw [← ih, show 6 * (k + 1) = (s.Q wide).length + 6 * k by rw [s.lenQ]; omega, List.take_length_add_append]
theorem symQ_snoc (wide : Bool) (l : List Sy) (k : Nat) (h : k < l.length) : symQ wide (l.take (k + 1)) = symQ wide (l.take k) ++ l[k].Q wide := by
  unfold symQ
  rw [List.take_succ_eq_append_getElem h, List.flatMap_append, List.flatMap_cons, List.flatMap_nil, List.append_nil]
/-- What is told of the place 6k + j. -/
theorem symQ_get (wide : Bool) (l : List Sy) (k j : Nat) (h : k < l.length) (hj : j < 6) (hq : 6 * k + j < (symQ wide l).length) :
    (symQ wide l)[6 * k + j].1 = l[k].N.getD ((yOrd wide).getD j 0) 0 ∧ (symQ wide l)[6 * k + j].2 = yWid wide ((yOrd wide).getD j 0) := by
  have h1 := symQ_at wide l k h j hj
  have hj' : j < (l[k].Q wide).length := by rw [Sy.lenQ]; exact hj
  rw [List.getElem?_eq_getElem hq, List.getElem?_eq_getElem hj'] at h1
  injection h1 with h1
  rw [h1]
  exact l[k].atQ wide j hj'
theorem rowB_bound {q : List (Nat × Nat)} (h : ∀ k (h : k < q.length), q[k].2 ≤ 8) (big : Bool) : ∀ k, k ≤ q.length → (rowB big (q.take k)).length ≤ 8 * k
  | 0, _ => by simp [rowB]
  | k + 1, hk => by
    rw [rowB_succ big q k (by omega), List.length_append, length_putB]
    have := rowB_bound h big k (by omega)
    have := h k (by omega)
    omega
theorem symQ_8 (wide : Bool) (l : List Sy) (i : Nat) (h : i < (symQ wide l).length) : (symQ wide l)[i].2 ≤ 8 := by
  have hl := symQ_len wide l
  have e : i = 6 * (i / 6) + i % 6 := by omega
  have h1 : i / 6 < l.length := by omega
  have h2 : i % 6 < 6 := by omega
  have h3 : 6 * (i / 6) + i % 6 < (symQ wide l).length := by omega
  have := (symQ_get wide l (i / 6) (i % 6) h1 h2 h3).2
  have e2 : (symQ wide l)[i] = (symQ wide l)[6 * (i / 6) + i % 6] := by congr 1
  rw [e2, this]
  exact yWid_8 _ _
/-- How many bytes they have. -/
theorem symL_len (wide big : Bool) : ∀ l : List Sy, (rowB big (symQ wide l)).length = l.length * ySize wide
  | [] => by simp [symQ, rowB]
  | s :: l => by
    have := symL_len wide big l
    simp only [symQ, List.flatMap_cons, rowB_append, List.length_append, s.lenR, List.length_cons] at *
    rw [this, Nat.succ_mul]; omega

/-- Of a row of n numbers those are laid that the first k of the order name; the others are 0. -/
def laidIn (os ns : List Nat) (n k : Nat) : List Nat := (List.range n).map fun i => if i ∈ os.take k then ns.getD i 0 else 0
theorem laidIn_zero (os ns : List Nat) (n : Nat) : laidIn os ns n 0 = List.replicate n 0 := by
  apply List.ext_getElem?
  intro i
  by_cases h : i < n
  · simp [laidIn, h]
  · simp [laidIn, h]
theorem laidIn_succ {os ns : List Nat} {n k o v : Nat} (ho : os[k]? = some o) (hv : ns.getD o 0 = v) : (laidIn os ns n k).set o v = laidIn os ns n (k + 1) := by
  obtain ⟨hk, e⟩ := List.getElem?_eq_some_iff.1 ho
  apply List.ext_getElem?
  intro i
  rw [List.getElem?_set]
  simp only [laidIn, List.length_map, List.length_range, List.getElem?_map]
  rw [take_snoc_nat os k hk, e]
  by_cases h : i < n
  · by_cases e2 : o = i
    · subst e2
      rw [if_pos rfl, if_pos h, List.getElem?_range h]
      subst hv
      simp
    · rw [if_neg e2, List.getElem?_range h]
      have e3 : ¬ i = o := fun h => e2 h.symm
      simp [e3]
  · rw [List.getElem?_eq_none (by simp; omega)]
    by_cases e2 : o = i
    · subst e2; rw [if_pos rfl, if_neg h]; rfl
    · rw [if_neg e2]
      rfl
theorem laidIn_all {os ns : List Nat} {n : Nat} (h : ∀ i, i < n → i ∈ os) (hn : ns.length = n) : laidIn os ns n os.length = ns := by
  apply List.ext_getElem?
  intro i
  by_cases hi : i < n
  · have hm := h i hi
    simp [laidIn, hi, hm, show i < ns.length by omega]
  · rw [List.getElem?_eq_none (by simp [laidIn]; omega), List.getElem?_eq_none (by omega)]
theorem len_laidIn (os ns : List Nat) (n k : Nat) : (laidIn os ns n k).length = n := by simp [laidIn]

/-- The six numbers, as they stand. -/
def yX (l : List UInt8) (p : Nat) (wide big : Bool) : List Nat := nums l big p (yRow wide)
/-- The symbol that has them. -/
def syOf (l : List UInt8) (p : Nat) (wide big : Bool) : Sy :=
  if wide then ⟨(yX l p wide big).getD 0 0, (yX l p wide big).getD 1 0, (yX l p wide big).getD 2 0, (yX l p wide big).getD 3 0, (yX l p wide big).getD 4 0, (yX l p wide big).getD 5 0⟩
  else ⟨(yX l p wide big).getD 0 0, (yX l p wide big).getD 3 0, (yX l p wide big).getD 4 0, (yX l p wide big).getD 5 0, (yX l p wide big).getD 1 0, (yX l p wide big).getD 2 0⟩
theorem yX_len (l : List UInt8) (p : Nat) (wide big : Bool) : (yX l p wide big).length = 6 := by rw [yX, length_nums, len_yRow]
theorem syOf_at (l : List UInt8) (p : Nat) (wide big : Bool) (k : Nat) (h : k < 6) : (syOf l p wide big).N.getD ((yOrd wide).getD k 0) 0 = (yX l p wide big).getD k 0 := by
  cases wide <;> (match k, h with
    | 0, _ => rfl
    | 1, _ => rfl
    | 2, _ => rfl
    | 3, _ => rfl
    | 4, _ => rfl
    | 5, _ => rfl)
theorem yX_lt (l : List UInt8) (p : Nat) (wide big : Bool) (k : Nat) (h : k < 6) : (yX l p wide big).getD k 0 < 256 ^ ((yRow wide).getD k 0) := by
  have h1 : k < (nums l big p (yRow wide)).length := by rw [length_nums, len_yRow]; exact h
  have := nums_lt l big (yRow wide) p k h1
  rw [yX, List.getD_eq_getElem?_getD, List.getElem?_eq_getElem h1]
  exact this
theorem syOf_ok (l : List UInt8) (p : Nat) (wide big : Bool) : (syOf l p wide big).Ok := by
  have h0 := yX_lt l p wide big 0 (by omega)
  have h1 := yX_lt l p wide big 1 (by omega)
  have h2 := yX_lt l p wide big 2 (by omega)
  have h3 := yX_lt l p wide big 3 (by omega)
  have h4 := yX_lt l p wide big 4 (by omega)
  have h5 := yX_lt l p wide big 5 (by omega)
  cases wide
  · exact ⟨h0, h3, h4, h5, Nat.lt_trans h1 (by decide), Nat.lt_trans h2 (by decide)⟩
  · exact ⟨h0, h1, h2, h3, h4, h5⟩
/-- Its numbers in their order, each with how many bytes it has. -/
theorem syOf_Q (l : List UInt8) (p : Nat) (wide big : Bool) : (syOf l p wide big).Q wide = (yX l p wide big).zip (yRow wide) := by
  apply List.ext_getElem
  · rw [Sy.lenQ, List.length_zip, yX_len, len_yRow]; rfl
  · intro k h1 h2
    have hk : k < 6 := by rw [Sy.lenQ] at h1; exact h1
    simp only [Sy.Q, List.getElem_map, List.getElem_zip, yRow]
    have := syOf_at l p wide big k hk
    rw [List.getD_eq_getElem?_getD (l := yOrd wide), List.getElem?_eq_getElem (by rw [len_yOrd]; exact hk), List.getD_eq_getElem?_getD (l := yX l p wide big), List.getElem?_eq_getElem (by rw [yX_len]; exact hk)] at this
    simp only [Option.getD_some] at this
    rw [this]

theorem nums_drop (l : List UInt8) (big : Bool) (p : Nat) : ∀ (r : List Nat) (q : Nat), nums (l.drop p) big q r = nums l big (p + q) r
  | [], _ => rfl
  | n :: r, q => by simp only [nums, List.drop_drop, nums_drop l big p r (q + n), Nat.add_assoc]
theorem nums_take (l : List UInt8) (big : Bool) (s : Nat) : ∀ (r : List Nat) (q : Nat), q + sumN r ≤ s → nums (l.take s) big q r = nums l big q r
  | [], _, _ => rfl
  | n :: r, q, h => by
    simp only [sumN] at h
    simp only [nums, nums_take l big s r (q + n) (by omega)]
    rw [List.drop_take, List.take_take, Nat.min_eq_left (by omega)]
/-- Of the bytes of one alone the same is told. -/
theorem syOf_sub (l : List UInt8) (p : Nat) (wide big : Bool) : syOf ((l.drop p).take (ySize wide)) 0 wide big = syOf l p wide big := by
  have e : yX ((l.drop p).take (ySize wide)) 0 wide big = yX l p wide big := by
    unfold yX
    rw [nums_take _ _ _ _ _ (by rw [sum_yRow]; omega), nums_drop, Nat.add_zero]
  unfold syOf
  rw [e]

/-- The first k symbols of bytes. -/
def symsTo (l : List UInt8) (wide big : Bool) (k : Nat) : List Sy := (List.range k).map fun i => syOf l (i * ySize wide) wide big
theorem symsTo_len (l : List UInt8) (wide big : Bool) (k : Nat) : (symsTo l wide big k).length = k := by simp [symsTo]
theorem symsTo_succ (l : List UInt8) (wide big : Bool) (k : Nat) : symsTo l wide big (k + 1) = symsTo l wide big k ++ [syOf l (k * ySize wide) wide big] := by
  simp [symsTo, List.range_succ]
theorem symsTo_ok (l : List UInt8) (wide big : Bool) (k : Nat) : ∀ s ∈ symsTo l wide big k, s.Ok := fun s hs => by
  obtain ⟨i, _, rfl⟩ := List.mem_map.1 hs
  exact syOf_ok _ _ _ _
/-- All symbols of bytes. -/
def syms (l : List UInt8) (wide big : Bool) : List Sy := symsTo l wide big (l.length / ySize wide)

theorem rowF_zip : ∀ (ns ws : List Nat), (∀ k (h : k < ns.length), ns[k] < 256 ^ (ws.getD k 0)) → rowF (ns.zip ws) = true
  | [], _, _ => rfl
  | _ :: _, [], _ => rfl
  | n :: ns, v :: ws, h => by
    have h0 := h 0 (by simp)
    simp only [List.getElem_cons_zero, List.getD_cons_zero] at h0
    simp only [List.zip_cons_cons, rowF, Bool.and_eq_true, decide_eq_true_eq]
    refine ⟨h0, rowF_zip ns ws fun k hk => ?_⟩
    have := h (k + 1) (by simpa using hk)
    simpa using this
theorem syOf_fits (l : List UInt8) (p : Nat) (wide big : Bool) : rowF ((syOf l p wide big).Q wide) = true := by
  rw [syOf_Q]
  exact rowF_zip _ _ fun k hk => nums_lt l big (yRow wide) p k hk
theorem symsTo_fit (l : List UInt8) (wide big : Bool) : ∀ k, rowF (symQ wide (symsTo l wide big k)) = true
  | 0 => rfl
  | k + 1 => by
    rw [symsTo_succ]
    simp only [symQ, List.flatMap_append, rowF_append, List.flatMap_cons, List.flatMap_nil, List.append_nil]
    have := symsTo_fit l wide big k
    rw [symQ] at this
    rw [this, syOf_fits]
    rfl
/-- What is got, put, is those bytes. -/
theorem symsTo_back (l : List UInt8) (wide big : Bool) : ∀ k, k * ySize wide ≤ l.length → rowB big (symQ wide (symsTo l wide big k)) = l.take (k * ySize wide)
  | 0, _ => by simp [symsTo, symQ, rowB]
  | k + 1, h => by
    rw [Nat.succ_mul] at h
    have ih := symsTo_back l wide big k (by omega)
    rw [symsTo_succ]
    simp only [symQ, List.flatMap_append, rowB_append, List.flatMap_cons, List.flatMap_nil, List.append_nil] at *
    rw [ih, syOf_Q, yX, rowB_nums l big (yRow wide) _ (by rw [sum_yRow]; omega), sum_yRow, Nat.succ_mul, List.take_add]
theorem syms_back (l : List UInt8) (wide big : Bool) (h : l.length % ySize wide = 0) : rowB big (symQ wide (syms l wide big)) = l := by
  have e : l.length / ySize wide * ySize wide = l.length := by
    have := Nat.div_add_mod l.length (ySize wide)
    rw [h, Nat.mul_comm] at this
    omega
  rw [syms, symsTo_back l wide big _ (by rw [e]; exact Nat.le_refl _), e, List.take_length]

/-- What stands there is the symbol whose bytes they are. -/
theorem syOf_put (s : Sy) (wide big : Bool) (pre post : List UInt8) (h : rowF (s.Q wide) = true) : syOf (pre ++ rowB big (s.Q wide) ++ post) pre.length wide big = s := by
  have e : yX (pre ++ rowB big (s.Q wide) ++ post) pre.length wide big = (yOrd wide).map fun i => s.N.getD i 0 := by
    have := nums_rowB big post (s.Q wide) pre h
    rw [s.sndQ, s.fstQ] at this
    exact this
  unfold syOf
  rw [e]
  cases wide <;> rfl
theorem syms_put (L : List Sy) (wide big : Bool) (h : rowF (symQ wide L) = true) : syms (rowB big (symQ wide L)) wide big = L := by
  have hl : (rowB big (symQ wide L)).length / ySize wide = L.length := by rw [symL_len]; exact Nat.mul_div_cancel _ (ySize_pos wide)
  rw [syms, hl]
  apply List.ext_getElem
  · rw [symsTo_len]
  · intro k h1 h2
    simp only [symsTo, List.getElem_map, List.getElem_range]
    have e : L = L.take k ++ L[k] :: L.drop (k + 1) := by rw [← List.drop_eq_getElem_cons h2]; exact (List.take_append_drop k L).symm
    have e2 : symQ wide L = symQ wide (L.take k) ++ (L[k].Q wide ++ symQ wide (L.drop (k + 1))) := by
      have : symQ wide (L.take k ++ L[k] :: L.drop (k + 1)) = symQ wide (L.take k) ++ (L[k].Q wide ++ symQ wide (L.drop (k + 1))) := by
        simp only [symQ, List.flatMap_append, List.flatMap_cons]
      rw [← e] at this
      exact this
    have hf : rowF (L[k].Q wide) = true := by
      rw [e2, rowF_append, rowF_append, Bool.and_eq_true, Bool.and_eq_true] at h
      exact h.2.1
    have hp : (rowB big (symQ wide (L.take k))).length = k * ySize wide := by rw [symL_len, List.length_take, Nat.min_eq_left (by omega)]
    rw [e2, rowB_append, rowB_append, ← List.append_assoc, ← hp]
    exact syOf_put _ wide big _ _ hf
theorem symL_mod (wide big : Bool) (L : List Sy) : (rowB big (symQ wide L)).length % ySize wide = 0 := by rw [symL_len, Nat.mul_mod_left]

/-- In the wide form all fit. -/
theorem fit_wide : ∀ (L : List Sy), (∀ s ∈ L, s.Ok) → rowF (symQ true L) = true
  | [], _ => rfl
  | s :: L, h => by
    have ok := h s (by simp)
    have h0 := ok.na
    have h1 := ok.inf
    have h2 := ok.oth
    have h3 := ok.shn
    have h4 := ok.val
    have h5 := ok.siz
    have e : rowF (s.Q true) = true := by
      show rowF [(s.na, 4), (s.inf, 1), (s.oth, 1), (s.shn, 2), (s.val, 8), (s.siz, 8)] = true
      simp only [rowF, Bool.and_eq_true, decide_eq_true_eq, Bool.and_true]
      refine ⟨?_, ?_, ?_, ?_, ?_, ?_⟩ <;> first | exact h0 | exact h1 | exact h2 | exact h3 | exact h4 | exact h5
    have := fit_wide L fun x hx => h x (by simp [hx])
    simp only [symQ, List.flatMap_cons, rowF_append] at *
    rw [e, this]; rfl

/-- The section of a symbol. -/
def idxB (L : List Sy) (x : List UInt8) (i : Int) : Bool := if i < 0 ∨ (L.length : Int) ≤ i then false else if (L.getD i.toNat sy0).shn = 65535 then decide (4 * i.toNat + 4 ≤ x.length) else true
def idxV (L : List Sy) (x : List UInt8) (big : Bool) (i : Int) : Nat :=
  if i < 0 ∨ (L.length : Int) ≤ i then 0 else if (L.getD i.toNat sy0).shn = 65535 then (if 4 * i.toNat + 4 ≤ x.length then getB ((x.drop (4 * i.toNat)).take 4) big else 0) else (L.getD i.toNat sy0).shn
end Go.Proofs.Ytodcnlihhilfkaa
