/-
  Models, as plain data: places, segments, sections; whether a place may be, the bytes there, and what is wrong with a model first, as the document has it. No program's function is spoken of here.
-/
import Derived.Test.YtahmdccalgdiaaaRise
import Derived.Test.YtahmdccalgdiaaaOnes
import Derived.Test.YtahmdccalgdiaaaStrMath
import Derived.Test.YtahmdccalgdiaaaStrs
import Derived.Test.YtahmdccalgdiaaaForm
namespace Go.Proofs.Ytahmdccalgdiaaa

structure Pl where
  inn : Int
  off : Nat
  size : Nat
  own : List UInt8
structure Sg where
  typ : Nat
  flags : Nat
  vaddr : Nat
  paddr : Nat
  memsz : Nat
  align : Nat
  pl : Pl
structure Se where
  name : Nat
  typ : Nat
  flags : Nat
  addr : Nat
  size : Nat
  link : Nat
  info : Nat
  align : Nat
  entsize : Nat
  pl : Pl
structure Md where
  wide : Bool
  big : Bool
  osabi : Nat
  abi : Nat
  typ : Nat
  mach : Nat
  flags : Nat
  entry : Nat
  segs : List Sg
  secs : List Se
  str : Int
def pl0 : Pl := ⟨0, 0, 0, []⟩
def sg0 : Sg := ⟨0, 0, 0, 0, 0, 0, pl0⟩
def se0 : Se := ⟨0, 0, 0, 0, 0, 0, 0, 0, 0, pl0⟩
instance : Inhabited Sg := ⟨sg0⟩
instance : Inhabited Se := ⟨se0⟩

/-- The numbers fit their types. -/
def I64 (i : Int) : Prop := -9223372036854775808 ≤ i ∧ i ≤ 9223372036854775807
structure Pl.Ok (p : Pl) : Prop where
  inn : I64 p.inn
  off : p.off < 18446744073709551616
  size : p.size < 18446744073709551616
structure Sg.Ok (s : Sg) : Prop where
  typ : s.typ < 4294967296
  flags : s.flags < 4294967296
  vaddr : s.vaddr < 18446744073709551616
  paddr : s.paddr < 18446744073709551616
  memsz : s.memsz < 18446744073709551616
  align : s.align < 18446744073709551616
  pl : s.pl.Ok
structure Se.Ok (s : Se) : Prop where
  name : s.name < 4294967296
  typ : s.typ < 4294967296
  flags : s.flags < 18446744073709551616
  addr : s.addr < 18446744073709551616
  size : s.size < 18446744073709551616
  link : s.link < 4294967296
  info : s.info < 4294967296
  align : s.align < 18446744073709551616
  entsize : s.entsize < 18446744073709551616
  pl : s.pl.Ok
structure Md.Ok (m : Md) : Prop where
  osabi : m.osabi < 256
  abi : m.abi < 256
  typ : m.typ < 65536
  mach : m.mach < 65536
  flags : m.flags < 4294967296
  entry : m.entry < 18446744073709551616
  segs : ∀ s ∈ m.segs, s.Ok
  secs : ∀ s ∈ m.secs, s.Ok
  str : I64 m.str

/-- Whether there is a segment of that number; that one. -/
def isSegN (n : Nat) (i : Int) : Bool := decide (0 ≤ i ∧ i < n)
def Md.seg (m : Md) (i : Int) : Sg := m.segs.getD i.toNat sg0
/-- Whether a place's bytes are within n. -/
def Pl.within (p : Pl) (n : Nat) : Bool := decide (p.off + p.size ≤ n)
/-- A place may be. -/
def Pl.ownMay (p : Pl) : Bool := decide (p.off = 0) && decide (p.size = p.own.length)
def Pl.inMay (p : Pl) (n : Nat) : Bool := decide (p.own.length = 0) && decide (0 < p.size) && p.within n
def Md.may (m : Md) (p : Pl) : Bool :=
  if p.inn = -1 then p.ownMay else isSegN m.segs.length p.inn && decide ((m.seg p.inn).typ = 1) && p.inMay (m.seg p.inn).pl.own.length
/-- The bytes at a place. -/
def Md.bytes (m : Md) (p : Pl) : List UInt8 :=
  if p.inn = -1 then p.own else if isSegN m.segs.length p.inn && p.within (m.seg p.inn).pl.own.length then (((m.seg p.inn).pl.own).drop p.off).take p.size else []

/-- The last address. -/
def lastA (wide : Bool) : Nat := byWide wide 4294967295 18446744073709551615
/-- A segment goes on beyond it. -/
def Sg.wraps (s : Sg) (wide : Bool) : Bool := decide (0 < s.memsz) && !decide (s.vaddr + (s.memsz - 1) ≤ lastA wide)
/-- What is wrong with a segment first (0: nothing). -/
def Md.segC (m : Md) (s : Sg) : Nat :=
  if 1 < ones s.align then 6 else if m.may s.pl = false then 1 else if s.typ ≠ 1 then 0 else if s.pl.inn ≠ -1 then 1 else if s.memsz < s.pl.size then 5 else if s.wraps m.wide = true then 12 else 0
/-- The first of a list that isn't 0. -/
def fstC {α : Type} (f : α → Nat) : List α → Nat
  | [] => 0
  | a :: r => if f a = 0 then fstC f r else f a
/-- The stretches that are loaded. -/
def loadOf (s : Sg) : List (Nat × Nat) := if s.typ = 1 then [(s.vaddr, s.memsz)] else []
def loads (l : List Sg) : List (Nat × Nat) := l.flatMap loadOf
def Md.segsC (m : Md) : Nat := if fstC m.segC m.segs = 0 then (if rises (loads m.segs) then 0 else 7) else fstC m.segC m.segs
/-- How many bytes a section has in the file. -/
def Se.held (s : Se) : Nat := if s.typ = 0 ∨ s.typ = 8 then 0 else s.size
def Md.secC (m : Md) (s : Se) : Nat := if m.may s.pl = false then 1 else if s.pl.size ≠ s.held then 1 else if m.secs.length < s.link then 10 else 0
def Md.secsC (m : Md) : Nat := fstC m.secC m.secs
def Md.tab (m : Md) : Se := m.secs.getD (m.str - 1).toNat se0
def Md.named (m : Md) : Bool :=
  if m.str = 0 then m.secs.all fun s => decide (s.name = 0)
  else decide (m.tab.typ = 3) && decide (m.tab.pl.inn = -1) && m.secs.all fun s => (nameAt m.tab.pl.own s.name).isSome
def Md.namesC (m : Md) : Nat := if m.str < 0 then 10 else if (m.secs.length : Int) < m.str then 10 else if m.named then 0 else 9
def Md.large (m : Md) : Bool := decide (16 < m.segs.length) || decide (64 < m.secs.length)
/-- The numbers that must fit the class. -/
def Sg.nums (s : Sg) : List Nat := [s.vaddr, s.paddr, s.memsz, s.align]
def Se.nums (s : Se) : List Nat := [s.flags, s.addr, s.size, s.align, s.entsize]
def Md.nums (m : Md) : List Nat := m.entry :: (m.segs.flatMap Sg.nums ++ m.secs.flatMap Se.nums)
def fitW (wide : Bool) (v : Nat) : Bool := decide (v < 256 ^ byWide wide 4 8)
def Md.fits (m : Md) : Bool := m.nums.all (fitW m.wide)
/-- What is wrong with a model first (0: nothing). -/
def Md.chk (m : Md) : Nat :=
  if m.large then 8 else if m.fits = false then 1 else if m.segsC ≠ 0 then m.segsC else if m.secsC ≠ 0 then m.secsC else m.namesC

theorem fstC_zero {α : Type} {f : α → Nat} : ∀ {l : List α}, fstC f l = 0 ↔ ∀ a ∈ l, f a = 0
  | [] => by simp [fstC]
  | a :: r => by
    rw [fstC]
    have ih := fstC_zero (f := f) (l := r)
    by_cases h : f a = 0
    · rw [if_pos h, ih]
      constructor
      · intro h1 x hx
        rcases List.mem_cons.1 hx with e | e
        · exact e ▸ h
        · exact h1 x e
      · intro h1 x hx
        exact h1 x (List.mem_cons_of_mem _ hx)
    · rw [if_neg h]
      exact ⟨fun h1 => absurd h1 h, fun h1 => absurd (h1 a (by simp)) h⟩
/-- The first that isn't 0 is the one behind k that are. -/
theorem fstC_at {α : Type} {f : α → Nat} : ∀ {l : List α} {k : Nat} (h : k < l.length), (∀ a ∈ l.take k, f a = 0) → f l[k] ≠ 0 → fstC f l = f l[k]
  | a :: r, 0, _, _, h2 => by rw [fstC, if_neg (by simpa using h2)]; rfl
  | a :: r, k + 1, h, h1, h2 => by
    rw [fstC, if_pos (h1 a (by simp))]
    exact fstC_at (by simpa using h) (fun x hx => h1 x (by simp [hx])) (by simpa using h2)
theorem takeS {α : Type} (l : List α) (k : Nat) (h : k < l.length) : l.take (k + 1) = l.take k ++ [l[k]] := by
  rw [List.take_add_one, List.getElem?_eq_getElem h]; rfl

theorem loads_snoc (l : List Sg) (k : Nat) (h : k < l.length) : loads (l.take (k + 1)) = loads (l.take k) ++ loadOf l[k] := by
  rw [takeS l k h, loads, List.flatMap_append]
  simp [loads]

/-- What a model that may be is. -/
theorem Md.chk_zero {m : Md} (h : m.chk = 0) : (∀ s ∈ m.segs, m.segC s = 0) ∧ rises (loads m.segs) = true ∧ (∀ s ∈ m.secs, m.secC s = 0) := by
  unfold Md.chk at h
  split at h
  · omega
  split at h
  · omega
  split at h
  · rename_i h1
    omega
  split at h
  · rename_i h1
    omega
  · rename_i h1 h2
    have h1 : m.segsC = 0 := by omega
    have h2 : m.secsC = 0 := by omega
    unfold Md.segsC at h1
    split at h1
    · rename_i h3
      refine ⟨fstC_zero.1 h3, ?_, fstC_zero.1 h2⟩
      split at h1
      · assumption
      · omega
    · rename_i h3
      exact absurd h1 h3
theorem Md.may_len {m : Md} {p : Pl} (h : m.may p = true) : (m.bytes p).length = p.size := by
  unfold Md.may at h
  unfold Md.bytes
  split
  · rename_i h0
    rw [if_pos h0] at h
    unfold Pl.ownMay at h
    simp at h
    exact h.2.symm
  · rename_i h0
    rw [if_neg h0] at h
    unfold Pl.inMay at h
    simp only [Bool.and_eq_true] at h
    rw [if_pos (by rw [Bool.and_eq_true]; exact ⟨h.1.1, h.2.2⟩)]
    have := h.2.2
    unfold Pl.within at this
    simp at this
    rw [List.length_take, List.length_drop]
    omega
theorem Md.segC_zero {m : Md} {s : Sg} (ok : s.Ok) (h : m.segC s = 0) : m.may s.pl = true ∧ (s.typ = 1 → (1 < s.align → s.align % 2 = 0) ∧ s.pl.own.length ≤ s.memsz) := by
  unfold Md.segC at h
  split at h
  · omega
  split at h
  · omega
  rename_i h1 h2
  have hm : m.may s.pl = true := by simpa using h2
  refine ⟨hm, fun ht => ⟨fun ha => ones_even ok.align (by omega) ha, ?_⟩⟩
  rw [if_neg (by simp [ht])] at h
  split at h
  · omega
  split at h
  · omega
  · rename_i h3 h4
    have hl := Md.may_len hm
    unfold Md.bytes at hl
    rw [if_pos (by omega)] at hl
    omega
theorem Md.secC_zero {m : Md} {s : Se} (h : m.secC s = 0) : m.may s.pl = true ∧ s.pl.size = s.held := by
  unfold Md.secC at h
  split at h
  · omega
  split at h
  · omega
  · rename_i h1 h2
    exact ⟨by simpa using h1, by omega⟩

/-- Of rising stretches each begins at or behind the one ahead of it. -/
theorem belowN_le {a n v : Nat} (ha : a < 18446744073709551616) (h : belowN a n v = true) : a ≤ v := by
  unfold belowN lastN at h
  split at h
  · simpa using h
  · simp at h
    omega
theorem mem_loads {l : List Sg} {x : Nat × Nat} (h : x ∈ loads l) : ∃ s ∈ l, s.typ = 1 ∧ x = (s.vaddr, s.memsz) := by
  unfold loads at h
  obtain ⟨s, hs, hx⟩ := List.mem_flatMap.1 h
  unfold loadOf at hx
  split at hx
  · rename_i ht
    exact ⟨s, hs, ht, by simpa using hx⟩
  · simp at hx
/-- The last of the first k that are loaded. -/
def lastV (l : List Sg) (k : Nat) : Nat := ((loads (l.take k)).getLast?.getD (0, 0)).1
theorem lastV_step (l : List Sg) (k : Nat) (h : k < l.length) : lastV l (k + 1) = if l[k].typ = 1 then l[k].vaddr else lastV l k := by
  unfold lastV
  rw [loads_snoc l k h, loadOf]
  split
  · simp
  · simp
theorem lastV_le {l : List Sg} {k : Nat} (ok : ∀ s ∈ l, s.Ok) (hu : rises (loads l) = true) (h : k < l.length) (ht : l[k].typ = 1) : lastV l k ≤ l[k].vaddr := by
  unfold lastV
  have hU := (rises_iff _).1 hu
  have e : l = l.take k ++ l[k] :: l.drop (k + 1) := by
    rw [List.getElem_cons_drop, List.take_append_drop]
  have e2 : loads l = loads (l.take k) ++ (l[k].vaddr, l[k].memsz) :: loads (l.drop (k + 1)) := by
    conv => lhs; rw [e]
    unfold loads
    rw [List.flatMap_append, List.flatMap_cons]
    simp [loadOf, ht]
  have hmem : ∀ x ∈ loads (l.take k), x.1 < 18446744073709551616 := fun x hx => by
    obtain ⟨s, hs, _, rfl⟩ := mem_loads hx
    exact (ok s (List.mem_of_mem_take hs)).vaddr
  rw [e2] at hU
  generalize loads (l.take k) = L at hU hmem ⊢
  rcases Nat.eq_zero_or_pos L.length with h0 | h0
  · rw [List.eq_nil_of_length_eq_zero h0]
    simp
  · have hb := hU L.length h0 (by simp)
    unfold belowAt at hb
    rw [List.getD_eq_getElem?_getD, List.getElem?_append_left (by omega), List.getD_eq_getElem?_getD, List.getElem?_append_right (Nat.le_refl _)] at hb
    simp only [Nat.sub_self, List.getElem?_cons_zero, Option.getD_some] at hb
    rw [List.getLast?_eq_getElem?]
    have hm2 := hmem (L[L.length - 1]) (List.getElem_mem _)
    rw [List.getElem?_eq_getElem (by omega)] at hb ⊢
    exact belowN_le hm2 hb
/-- A model without segments, sections and Str. -/
theorem Md.chk_bare {m : Md} (h1 : m.segs = []) (h2 : m.secs = []) (h3 : m.str = 0) : m.chk = if fitW m.wide m.entry then 0 else 1 := by
  unfold Md.chk Md.large Md.fits Md.nums Md.segsC Md.secsC Md.namesC Md.named
  rw [h1, h2, h3]
  cases hf : fitW m.wide m.entry <;> simp [fstC, loads, rises, hf]
end Go.Proofs.Ytahmdccalgdiaaa
