/-
  Plain words of layer 11: notes, their bytes, and what is told of any bytes. No program's function is spoken of here.
-/
import Derived.Test.YtheekcjpphcihaaForm
namespace Go.Proofs.Ytheekcjpphcihaa
open Go.RowKit

/-- A note. -/
structure Nt where
  name : List UInt8
  desc : List UInt8
  typ : Nat
/-- Its fields have the sizes of their types, its lengths have room. -/
structure Nt.Ok (s : Nt) : Prop where
  name : s.name.length < 4294967296
  desc : s.desc.length < 4294967296
  typ : s.typ < 4294967296

/-- A number, up to a multiple of four. -/
def fil (n : Nat) : Nat := (n + 3) / 4 * 4
theorem fil_ge (n : Nat) : n ≤ fil n := by unfold fil; omega
theorem fil_le (n : Nat) : fil n ≤ n + 3 := by unfold fil; omega
theorem fil_mod (n : Nat) : fil n % 4 = 0 := by unfold fil; omega
/-- The 0s that fill up. -/
def zer (n : Nat) : List UInt8 := List.replicate (fil n - n) 0
theorem zer_len (n : Nat) : (zer n).length = fil n - n := by simp [zer]
/-- A part of a note with its 0s. -/
def partB (l : List UInt8) : List UInt8 := l ++ zer l.length
theorem partB_len (l : List UInt8) : (partB l).length = fil l.length := by have := fil_ge l.length; simp [partB, zer_len]; omega

def ntRow : List Nat := [4, 4, 4]
def Nt.Q (s : Nt) : List (Nat × Nat) := [(s.name.length, 4), (s.desc.length, 4), (s.typ, 4)]
def Nt.H (s : Nt) (big : Bool) : List UInt8 := rowB big s.Q
theorem Nt.lenH (s : Nt) (big : Bool) : (s.H big).length = 12 := by rw [Nt.H, length_rowB]; rfl
theorem Nt.Ok.fit {s : Nt} (h : s.Ok) : rowF s.Q = true := by
  have e1 : decide (s.name.length < 256 ^ 4) = true := decide_eq_true h.name
  have e2 : decide (s.desc.length < 256 ^ 4) = true := decide_eq_true h.desc
  have e3 : decide (s.typ < 256 ^ 4) = true := decide_eq_true h.typ
  simp only [Nt.Q, rowF, e1, e2, e3, Bool.and_true]
/-- A note's bytes. -/
def Nt.B (s : Nt) (big : Bool) : List UInt8 := s.H big ++ (partB s.name ++ partB s.desc)
def Nt.size (s : Nt) : Nat := 12 + fil s.name.length + fil s.desc.length
theorem Nt.lenB (s : Nt) (big : Bool) : (s.B big).length = s.size := by simp [Nt.B, Nt.lenH, partB_len, Nt.size, Nat.add_assoc]
theorem Nt.size_mod (s : Nt) : s.size % 4 = 0 := by have := fil_mod s.name.length; have := fil_mod s.desc.length; unfold Nt.size; omega

/-- Notes' bytes, one behind the other. -/
def ntsB (big : Bool) (L : List Nt) : List UInt8 := L.flatMap (·.B big)
/-- The bytes of the first k. -/
def ntP (L : List Nt) (big : Bool) (k : Nat) : List UInt8 := ntsB big (L.take k)
theorem ntP_zero (L : List Nt) (big : Bool) : ntP L big 0 = [] := rfl
theorem ntP_succ (L : List Nt) (big : Bool) (k : Nat) (h : k < L.length) : ntP L big (k + 1) = ntP L big k ++ L[k].B big := by
  unfold ntP ntsB
  rw [List.take_succ_eq_append_getElem h, List.flatMap_append, List.flatMap_cons, List.flatMap_nil, List.append_nil]
theorem ntP_all (L : List Nt) (big : Bool) (k : Nat) (h : L.length ≤ k) : ntP L big k = ntsB big L := by rw [ntP, List.take_of_length_le h]
theorem ntsB_split (L : List Nt) (big : Bool) (k : Nat) : ntsB big L = ntP L big k ++ ntsB big (L.drop k) := by
  unfold ntP ntsB
  rw [← List.flatMap_append, List.take_append_drop]
theorem ntP_le (L : List Nt) (big : Bool) (k : Nat) : (ntP L big k).length ≤ (ntsB big L).length := by rw [ntsB_split L big k]; simp
theorem ntsB_len_le (big : Bool) (m : Nat) : ∀ L : List Nt, (∀ s ∈ L, s.size ≤ m) → (ntsB big L).length ≤ L.length * m
  | [], _ => by simp [ntsB]
  | s :: L, h => by
    have := ntsB_len_le big m L (fun x hx => h x (by simp [hx]))
    have h2 := h s (by simp)
    unfold ntsB at *
    simp only [List.flatMap_cons, List.length_append, s.lenB, List.length_cons, Nat.succ_mul]
    omega
theorem ntsB_mod (big : Bool) : ∀ L : List Nt, (ntsB big L).length % 4 = 0
  | [] => rfl
  | s :: L => by
    have := ntsB_mod big L
    have := s.size_mod
    unfold ntsB at *
    simp only [List.flatMap_cons, List.length_append, s.lenB]
    omega
theorem ntP_mod (L : List Nt) (big : Bool) (k : Nat) : (ntP L big k).length % 4 = 0 := ntsB_mod big _

/-- The number that stands there. -/
def ntG (l : List UInt8) (big : Bool) (q : Nat) : Nat := getB ((l.drop q).take 4) big
theorem ntG_lt (l : List UInt8) (big : Bool) (q : Nat) : ntG l big q < 4294967296 := by
  have h1 := getB_lt ((l.drop q).take 4) big
  have h2 : 256 ^ ((l.drop q).take 4).length ≤ 256 ^ 4 := Nat.pow_le_pow_right (by decide) (by simp only [List.length_take]; omega)
  unfold ntG
  have h3 : 256 ^ 4 = 4294967296 := by decide
  omega
/-- Where Desc begins; where the note ends. -/
def ntM (l : List UInt8) (big : Bool) : Nat := 12 + fil (ntG l big 0)
def ntE (l : List UInt8) (big : Bool) : Nat := ntM l big + fil (ntG l big 4)
theorem ntE_ge (l : List UInt8) (big : Bool) : 12 ≤ ntE l big := by unfold ntE ntM; omega
theorem ntE_lt (l : List UInt8) (big : Bool) : ntE l big < 8589934622 := by
  have h1 := fil_le (ntG l big 0)
  have h2 := fil_le (ntG l big 4)
  have h3 := ntG_lt l big 0
  have h4 := ntG_lt l big 4
  unfold ntE ntM; omega
/-- All are 0. -/
def zeros (l : List UInt8) : Bool := l.all (· == 0)
/-- The two parts with what fills them up. -/
def ntN (l : List UInt8) (big : Bool) : List UInt8 := (l.drop 12).take (fil (ntG l big 0))
def ntD (l : List UInt8) (big : Bool) : List UInt8 := (l.drop (ntM l big)).take (fil (ntG l big 4))
/-- Each byte that fills up is 0. -/
def ntZ (l : List UInt8) (big : Bool) : Bool := zeros ((ntN l big).drop (ntG l big 0)) && zeros ((ntD l big).drop (ntG l big 4))
/-- The note that stands at the front. -/
def ntOf (l : List UInt8) (big : Bool) : Nt := ⟨(ntN l big).take (ntG l big 0), (ntD l big).take (ntG l big 4), ntG l big 8⟩
theorem ntOf_lt (l : List UInt8) (big : Bool) : (ntOf l big).typ < 4294967296 := ntG_lt l big 8
/-- What is wrong with it; 0: nothing is. -/
def ntBad (l : List UInt8) (big : Bool) : Nat := if l.length < ntE l big then 2 else if ntZ l big then 0 else 4
theorem ntBad_cases (l : List UInt8) (big : Bool) : (l.length < ntE l big ∧ ntBad l big = 2) ∨ (ntE l big ≤ l.length ∧ ntZ l big = false ∧ ntBad l big = 4) ∨ (ntE l big ≤ l.length ∧ ntZ l big = true ∧ ntBad l big = 0) := by
  unfold ntBad
  by_cases h : l.length < ntE l big
  · exact .inl ⟨h, by simp [h]⟩
  · cases h2 : ntZ l big
    · exact .inr (.inl ⟨by omega, rfl, by simp [h]⟩)
    · exact .inr (.inr ⟨by omega, rfl, by simp [h]⟩)
theorem ntOf_len {l : List UInt8} {big : Bool} (h : ntE l big ≤ l.length) : (ntOf l big).name.length = ntG l big 0 ∧ (ntOf l big).desc.length = ntG l big 4 := by
  have h1 := fil_ge (ntG l big 0)
  have h2 := fil_ge (ntG l big 4)
  unfold ntE at h
  have h3 : ntM l big = 12 + fil (ntG l big 0) := rfl
  constructor
  · simp [ntOf, ntN]; omega
  · simp [ntOf, ntD]; omega
theorem nums_nt (l : List UInt8) (p : Nat) (big : Bool) : nums l big p ntRow = [ntG (l.drop p) big 0, ntG (l.drop p) big 4, ntG (l.drop p) big 8] := by
  simp [nums, ntRow, ntG, List.drop_drop]

/-- The notes from byte p on, and what is wrong, where (0, 0: nothing is). -/
def ntRest (l : List UInt8) (big : Bool) (p : Nat) : List Nt × Nat × Nat :=
  if _h : p < l.length then
    if ntBad (l.drop p) big = 0 then (ntOf (l.drop p) big :: (ntRest l big (p + ntE (l.drop p) big)).1, (ntRest l big (p + ntE (l.drop p) big)).2)
    else ([], ntBad (l.drop p) big, p)
  else ([], 0, 0)
termination_by l.length - p
decreasing_by all_goals (have := ntE_ge (l.drop p) big; omega)

theorem nt_step (l : List UInt8) (big : Bool) (p : Nat) :
    (l.length ≤ p → ntRest l big p = ([], 0, 0)) ∧
    (p < l.length → ntBad (l.drop p) big ≠ 0 → ntRest l big p = ([], ntBad (l.drop p) big, p)) ∧
    (p < l.length → ntBad (l.drop p) big = 0 → ntRest l big p = (ntOf (l.drop p) big :: (ntRest l big (p + ntE (l.drop p) big)).1, (ntRest l big (p + ntE (l.drop p) big)).2)) := by
  refine ⟨fun h => ?_, fun h h2 => ?_, fun h h2 => ?_⟩
  · rw [ntRest, dif_neg (by omega)]
  · rw [ntRest, dif_pos h, if_neg h2]
  · rw [ntRest, dif_pos h, if_pos h2]
theorem ntRest_at (l : List UInt8) (big : Bool) : ∀ (m p : Nat), l.length - p ≤ m → (ntRest l big p).2.2 ≤ l.length ∧ ((ntRest l big p).2.1 = 0 ∨ (ntRest l big p).2.1 = 2 ∨ (ntRest l big p).2.1 = 4) ∧ ((ntRest l big p).2.1 = 0 → (ntRest l big p).2.2 = 0)
  | m, p, hm => by
    obtain ⟨h1, h2, h3⟩ := nt_step l big p
    rcases Nat.lt_or_ge p l.length with h | h
    · rcases ntBad_cases (l.drop p) big with ⟨-, hb⟩ | ⟨-, -, hb⟩ | ⟨hw, -, hb⟩
      · rw [h2 h (by omega), hb]; exact ⟨by simp; omega, .inr (.inl rfl), fun h => by simp at h⟩
      · rw [h2 h (by omega), hb]; exact ⟨by simp; omega, .inr (.inr rfl), fun h => by simp at h⟩
      · rw [h3 h hb]
        have := ntE_ge (l.drop p) big
        match m with
        | 0 => omega
        | m + 1 => exact ntRest_at l big m (p + ntE (l.drop p) big) (by omega)
    · rw [h1 h]; exact ⟨by simp, .inl rfl, fun _ => rfl⟩

theorem zeros_zer (n : Nat) : zeros (zer n) = true := by simp [zeros, zer]
theorem zeros_is {l : List UInt8} {n : Nat} (h : zeros l = true) (hn : l.length = n) : l = List.replicate n 0 := by
  rw [List.eq_replicate_iff]
  refine ⟨hn, fun b hb => ?_⟩
  have := List.all_eq_true.1 h b hb
  simpa using this

/-- What is told of bytes that begin with a note's. -/
theorem nt_put (s : Nt) (hs : s.Ok) (big : Bool) (post : List UInt8) : ntE (s.B big ++ post) big = s.size ∧ ntBad (s.B big ++ post) big = 0 ∧ ntOf (s.B big ++ post) big = s := by
  have hn := nums_rowB big (partB s.name ++ partB s.desc ++ post) s.Q [] hs.fit
  have e0 : [] ++ rowB big s.Q ++ (partB s.name ++ partB s.desc ++ post) = s.B big ++ post := by simp [Nt.B, Nt.H]
  rw [e0] at hn
  have hn2 := nums_nt (s.B big ++ post) 0 big
  rw [List.drop_zero] at hn2
  have hn3 : [ntG (s.B big ++ post) big 0, ntG (s.B big ++ post) big 4, ntG (s.B big ++ post) big 8] = [s.name.length, s.desc.length, s.typ] := by rw [← hn2]; exact hn
  injection hn3 with g0 hn3
  injection hn3 with g4 hn3
  injection hn3 with g8 _
  have hM : ntM (s.B big ++ post) big = 12 + fil s.name.length := by rw [ntM, g0]
  have hE : ntE (s.B big ++ post) big = s.size := by rw [ntE, hM, g4, Nt.size]
  have dN : (s.B big ++ post).drop 12 = partB s.name ++ (partB s.desc ++ post) := by
    have : s.B big ++ post = s.H big ++ (partB s.name ++ (partB s.desc ++ post)) := by simp [Nt.B]
    rw [this, List.drop_left' (s.lenH big)]
  have hN : ntN (s.B big ++ post) big = partB s.name := by rw [ntN, g0, dN, List.take_left' (partB_len _)]
  have dD : (s.B big ++ post).drop (12 + fil s.name.length) = partB s.desc ++ post := by rw [← List.drop_drop, dN, List.drop_left' (partB_len _)]
  have hD : ntD (s.B big ++ post) big = partB s.desc := by rw [ntD, hM, g4, dD, List.take_left' (partB_len _)]
  have hZ : ntZ (s.B big ++ post) big = true := by
    rw [ntZ, hN, hD, g0, g4]
    unfold partB
    rw [List.drop_left' rfl, List.drop_left' rfl, zeros_zer, zeros_zer]; rfl
  refine ⟨hE, ?_, ?_⟩
  · have : s.size ≤ (s.B big ++ post).length := by rw [List.length_append, s.lenB]; omega
    rw [ntBad, hE, hZ, if_neg (by omega)]; rfl
  · rw [ntOf, hN, hD, g0, g4, g8]
    unfold partB
    rw [List.take_left' rfl, List.take_left' rfl]

/-- What was put is got. -/
theorem ntRest_put (L : List Nt) (hL : ∀ s ∈ L, s.Ok) (big : Bool) : ∀ (m k : Nat), k + m = L.length → ntRest (ntsB big L) big (ntP L big k).length = (L.drop k, 0, 0)
  | 0, k, h => by
    rw [ntP_all L big k (by omega)]
    rw [(nt_step _ big _).1 (Nat.le_refl _), List.drop_eq_nil_of_le (by omega)]
  | m + 1, k, h => by
    have hk : k < L.length := by omega
    have hs := ntsB_split L big k
    have hd : (ntsB big L).drop (ntP L big k).length = L[k].B big ++ ntsB big (L.drop (k + 1)) := by
      rw [hs, List.drop_left' rfl, List.drop_eq_getElem_cons hk]
      rfl
    obtain ⟨p1, p2, p3⟩ := nt_put L[k] (hL _ (List.getElem_mem hk)) big (ntsB big (L.drop (k + 1)))
    have hlt : (ntP L big k).length < (ntsB big L).length := by
      have h1 : ((ntsB big L).drop (ntP L big k).length).length = (L[k].B big ++ ntsB big (L.drop (k + 1))).length := by rw [hd]
      rw [List.length_drop, List.length_append, Nt.lenB] at h1
      have : 12 ≤ L[k].size := by unfold Nt.size; omega
      omega
    have h3 := (nt_step (ntsB big L) big (ntP L big k).length).2.2 hlt (by rw [hd]; exact p2)
    rw [hd, p1, p3] at h3
    have hq : (ntP L big k).length + L[k].size = (ntP L big (k + 1)).length := by rw [ntP_succ L big k hk, List.length_append, Nt.lenB]
    rw [hq, ntRest_put L hL big m (k + 1) (by omega)] at h3
    rw [h3, List.drop_eq_getElem_cons hk]
/-- A note that is got, put, is its bytes. -/
theorem nt_back (l : List UInt8) (big : Bool) (h : ntBad l big = 0) : (ntOf l big).B big = l.take (ntE l big) := by
  rcases ntBad_cases l big with ⟨-, hb⟩ | ⟨-, -, hb⟩ | ⟨hw, hz, -⟩
  · omega
  · omega
  obtain ⟨h1, h2⟩ := ntOf_len hw
  have f1 := fil_ge (ntG l big 0)
  have f2 := fil_ge (ntG l big 4)
  have hM : ntM l big = 12 + fil (ntG l big 0) := rfl
  have hE : ntE l big = ntM l big + fil (ntG l big 4) := rfl
  have lN : (ntN l big).length = fil (ntG l big 0) := by simp [ntN]; omega
  have lD : (ntD l big).length = fil (ntG l big 4) := by simp [ntD]; omega
  unfold ntZ at hz
  rw [Bool.and_eq_true] at hz
  have pN : partB (ntOf l big).name = ntN l big := by
    unfold partB zer
    rw [h1]
    have e := zeros_is hz.1 (n := fil (ntG l big 0) - ntG l big 0) (by rw [List.length_drop, lN])
    rw [← e]
    exact List.take_append_drop _ _
  have pD : partB (ntOf l big).desc = ntD l big := by
    unfold partB zer
    rw [h2]
    have e := zeros_is hz.2 (n := fil (ntG l big 4) - ntG l big 4) (by rw [List.length_drop, lD])
    rw [← e]
    exact List.take_append_drop _ _
  have hH : (ntOf l big).H big = l.take 12 := by
    have h3 := rowB_nums l big ntRow 0 (by show 0 + 12 ≤ _; omega)
    rw [nums_nt, List.drop_zero] at h3
    have h4 : (ntOf l big).Q = [ntG l big 0, ntG l big 4, ntG l big 8].zip ntRow := by
      unfold Nt.Q
      rw [h1, h2]; rfl
    rw [Nt.H, h4, h3]
    rfl
  rw [Nt.B, hH, pN, pD, hE, hM, ntN, ntD, hM, List.take_add, List.take_add, List.append_assoc]
/-- What is got, put, is those bytes. -/
theorem ntRest_back (l : List UInt8) (big : Bool) : ∀ (m p : Nat), l.length - p ≤ m → (ntRest l big p).2.1 = 0 → ntsB big (ntRest l big p).1 = l.drop p ∧ ∀ s ∈ (ntRest l big p).1, s.Ok
  | m, p, hm, h0 => by
    obtain ⟨h1, h2, h3⟩ := nt_step l big p
    rcases Nat.lt_or_ge p l.length with h | h
    · by_cases hb : ntBad (l.drop p) big = 0
      · rw [h3 h hb] at h0 ⊢
        have := ntE_ge (l.drop p) big
        match m with
        | 0 => omega
        | m + 1 =>
          obtain ⟨i1, i2⟩ := ntRest_back l big m (p + ntE (l.drop p) big) (by omega) h0
          refine ⟨?_, fun s hs => ?_⟩
          · show (ntOf (l.drop p) big).B big ++ ntsB big _ = _
            rw [nt_back _ big hb, i1, ← List.drop_drop, List.take_append_drop]
          · rcases List.mem_cons.1 hs with rfl | hs
            · have hw : ntE (l.drop p) big ≤ (l.drop p).length := by rcases ntBad_cases (l.drop p) big with ⟨-, hb2⟩ | ⟨h4, -⟩ | ⟨h4, -⟩ <;> omega
              obtain ⟨k1, k2⟩ := ntOf_len hw
              exact ⟨by rw [k1]; exact ntG_lt _ _ _, by rw [k2]; exact ntG_lt _ _ _, ntOf_lt _ _⟩
            · exact i2 s hs
      · rw [h2 h hb] at h0
        exact absurd h0 hb
    · rw [h1 h]
      refine ⟨?_, fun s hs => absurd hs (by simp)⟩
      rw [List.drop_eq_nil_of_le h]; rfl
theorem ntRest_few (l : List UInt8) (big : Bool) : ∀ (m p : Nat), l.length - p ≤ m → (ntRest l big p).1.length * 12 ≤ l.length - p
  | m, p, hm => by
    obtain ⟨h1, h2, h3⟩ := nt_step l big p
    rcases Nat.lt_or_ge p l.length with h | h
    · by_cases hb : ntBad (l.drop p) big = 0
      · rw [h3 h hb]
        have := ntE_ge (l.drop p) big
        have hw : ntE (l.drop p) big ≤ (l.drop p).length := by rcases ntBad_cases (l.drop p) big with ⟨-, hb2⟩ | ⟨h4, -⟩ | ⟨h4, -⟩ <;> omega
        rw [List.length_drop] at hw
        match m with
        | 0 => omega
        | m + 1 =>
          have := ntRest_few l big m (p + ntE (l.drop p) big) (by omega)
          simp only [List.length_cons]
          omega
      · rw [h2 h hb]; simp
    · rw [h1 h]; simp
end Go.Proofs.Ytheekcjpphcihaa
