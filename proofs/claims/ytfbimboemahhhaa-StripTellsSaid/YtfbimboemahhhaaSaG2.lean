/-
  Several texts in one: Names in a table, as plain lists of bytes; A slice of strings that reads as a list of names; Slices of numbers; Small words that the layers behind head share; Models, as plain data; Sections that go, as plain data; The contract of bytes; string(b) of bytes that are known, in this program, in every world that has only grown since; The contract of strs; append of one struct in a list of operations; a store beside structs of the call's own; Models in memory; Contracts of wire; The contracts of model; The contract of model; Slices of slices of bytes, of no bytes too, wherever they begin (at the end of their room too); A part of bytes that may be nil.
-/
import Derived.Lib.Bytealg
import Derived.Test.YtfbimboemahhhaaSaG1
import Derived.WalkKit
import Derived.Lib.Hide
import Derived.Laws.Strings
import Derived.Maps.AppendAt
import Derived.Test.YtfbimboemahhhaaRows
import Derived.Lib.BytesEntry
import Derived.Laws.Entries
import Derived.BigQuiet
import Derived.Deep.QuietTactic
namespace Go.Proofs.Ytfbimboemahhhaa
open Go.Lib (hid)
abbrev Bs := List UInt8
def cut0 : Bs → Option Bs
 | [] => none
 | b :: r => if b = 0 then some [] else (cut0 r).map (b :: ·)
def nameAt (l : Bs) (off : Nat) : Option Bs := cut0 (l.drop off)
theorem cut0_some : ∀ {l s : Bs}, cut0 l = some s → s.length < l.length ∧ l.take s.length = s ∧ l[s.length]? = some 0
 | [], s, h => by cases h
 | b :: r, s, h => by
  unfold cut0 at h
  split at h
  ·rename_i hb
   subst hb
   injection h with h
   subst h
   simp
  ·obtain ⟨x, hx, rfl⟩ := Option.map_eq_some_iff.1 h
   obtain ⟨h1, h2, h3⟩ := cut0_some hx
   exact ⟨by simpa using h1, by simp [h2], by simpa using h3⟩
theorem cut0_none : ∀ {l : Bs}, cut0 l = none ↔ ∀ b ∈ l, b ≠ 0
 | [] => by simp [cut0]
 | b :: r => by
  unfold cut0
  split
  ·rename_i hb; subst hb; simp
  ·rename_i hb
   rw [Option.map_eq_none_iff, cut0_none]
   simp [hb]
theorem cut0_at {l : Bs} {k : Nat} (h0 : ∀ j, j < k → l[j]? ≠ some 0) (hk : l[k]? = some 0) : cut0 l = some (l.take k) := by
 induction l generalizing k with
 | nil => simp at hk
 | cons b l ih =>
  unfold cut0
  cases k with
  | zero =>
   have : b = 0 := by simpa using hk
   rw [if_pos this]; rfl
  | succ k =>
   have hb : b ≠ 0 := fun e => h0 0 (by omega) (by simp [e])
   rw [if_neg hb, ih (fun j hj => by have := h0 (j + 1) (Nat.succ_lt_succ hj); simpa using this) (by simpa using hk)]
   rfl
theorem indexByte_cut (l : Bs) : Lib.indexByte l 0 = match cut0 l with | some s => (s.length : Int) | none => -1 := by
 induction l with
 | nil => rfl
 | cons b r ih =>
  unfold Lib.indexByte cut0
  by_cases hb : b = 0
  ·subst hb
   rfl
  ·have e : (b == 0) = false := by simpa using hb
   rw [if_neg hb, e, ih]
   cases cut0 r with
   | none => rfl
   | some s =>
    have : ((s.length : Int) == -1) = false := by rw [beq_eq_false_iff_ne]; omega
    simp [this]
section
variable {L : List Bs} {k : Nat}
end
end Go.Proofs.Ytfbimboemahhhaa
namespace Go.Proofs.Ytfbimboemahhhaa
open Go.Lib (hid)
open Go.RowKit
def bstr (s : Bs) : ByteArray := ⟨s.toArray⟩
theorem bstr_size (s : Bs) : (bstr s).size = s.length := by simp [bstr, ByteArray.size]
theorem bstr_list (s : Bs) : (bstr s).data.toList = s := by simp [bstr]
theorem bstr_toList (s : Bs) : (bstr s).toList = s := by rw [ByteArray.toList_eq, bstr_list]
section
variable {w w' : World} {B : Nat} {A : Option Addr} {n c : Nat} {L : List Bs}
end
def ival (k : IntKind) (n : Nat) : Value := .int k (n : Int)
structure NS (w : World) (B : Nat) (k : IntKind) (A : Option Addr) (n c : Nat) (l : List Nat) : Prop where
 len : n = l.length
 cap : n ≤ c
 max : c ≤ maxLen
 pos : 0 < n → ∃ b off, A = some ⟨b, off, none⟩ ∧ b < B ∧ ∀ j (h : j < l.length), w.cell? ⟨b, off + j, none⟩ = some (.int k (l[j] : Int))
section
variable {w w' : World} {B : Nat} {k : IntKind} {A : Option Addr} {n c : Nat} {l : List Nat}
end
def ON (w : World) (base : Nat) (e : TypeId) (k : IntKind) (A : Option Addr) (n c : Nat) (l : List Nat) : Prop :=
 w.ownsRow base e 1 (.slice A n c) n (l.map (ival k))
section
variable {w : World} {base : Nat} {e : TypeId} {k : IntKind} {A : Option Addr} {n c : Nat} {l : List Nat}
theorem ON.keep {w' : World} (h : ON w base e k A n c l) (hb : Below w.heap.size w w') : ON w' base e k A n c l := by
 refine ⟨h.1, ?_⟩
 rcases h.2 with h0 | ⟨g, cap, cur, hv, hg, hh, r⟩
 ·exact .inl h0
 ·refine .inr ⟨g, cap, cur, hv, hg, ?_, r⟩
  rw [hb.block g ?_]
  ·exact hh
  ·rcases Nat.lt_or_ge g w.heap.size with h1 | h1
   ·exact h1
   ·rw [Array.getElem?_eq_none h1] at hh; cases hh
theorem ON.ns (h : ON w base e k A n c l) : NS w w.heap.size k A n c l := by
 have hl : n = l.length := by have := h.1; simp at this; omega
 rcases h.2 with ⟨e0, h0⟩ | ⟨g, cap, cur, hv, _, hh, hnc, hcm, hsz, htk⟩
 ·injection e0 with e1 e2 e3
  subst e1; subst e3
  exact ⟨hl, by omega, Nat.zero_le _, fun hp => by omega⟩
 ·injection hv with hA _ hc
  subst hA; subst hc
  refine ⟨hl, hnc, hcm, fun _ => ⟨g, 0, rfl, ?_, fun j hj => ?_⟩⟩
  ·rcases Nat.lt_or_ge g w.heap.size with h1 | h1
   ·exact h1
   ·rw [Array.getElem?_eq_none h1] at hh; cases hh
  ·rw [cell_of_row w g (0 + j) cur e (0, 0) hh, Nat.zero_add]
   have e1 : (cur.toList.take (n * 1))[j]? = some (Value.int k (l[j] : Int)) := by
    rw [htk]; simp [hj, ival]
   rw [List.getElem?_take_of_lt (by omega)] at e1
   simpa using e1
end
def byWide (wide : Bool) (x y : Nat) : Nat := if wide then y else x
theorem OB.of_blk {w : World} {base g : Nat} {e : TypeId} {l : List UInt8} (h : Blk w g e (l.map byt).toArray) (hb : base ≤ g) (hm : l.length ≤ maxLen) : OB w base e (some ⟨g, 0, none⟩) l.length l.length l :=
 ⟨by simp, .inr ⟨g, l.length, (l.map byt).toArray, rfl, hb, h, Nat.le_refl _, hm, by simp, by simp [List.take_of_length_le]⟩⟩
theorem RB.grow {w w' : World} {A : Option Addr} {n c : Nat} {l : List UInt8} (h : RB w w.heap.size A n c l) (hg : Grow w w') : RB w' w'.heap.size A n c l := (h.belowAt hg (Nat.le_refl _)).more hg.size
theorem RB.first {w : World} {B : Nat} {A : Option Addr} {n c m : Nat} {l : List UInt8} (h : RB w B A n c l) (hm : m ≤ n) : RB w B A m c (l.take m) :=
 ⟨by have := h.len; simp; omega, by have := h.cap; omega, h.max, fun hp => by
  obtain ⟨b, off, e, hb, hc⟩ := h.pos (by omega)
  exact ⟨b, off, e, hb, fun j hj => by
   have hj2 : j < l.length := by simp at hj; omega
   rw [hc j hj2]; simp⟩⟩
theorem Blk.c10 {w : World} {g : Nat} {t : TypeId} {a0 a1 a2 a3 a4 a5 a6 a7 a8 a9 : Value} (h : Blk w g t #[a0, a1, a2, a3, a4, a5, a6, a7, a8, a9]) :
  w.cell? ⟨g, 0, none⟩ = some a0 ∧ w.cell? ⟨g, 1, none⟩ = some a1 ∧ w.cell? ⟨g, 2, none⟩ = some a2 ∧ w.cell? ⟨g, 3, none⟩ = some a3 ∧ w.cell? ⟨g, 4, none⟩ = some a4 ∧ w.cell? ⟨g, 5, none⟩ = some a5 ∧ w.cell? ⟨g, 6, none⟩ = some a6 ∧ w.cell? ⟨g, 7, none⟩ = some a7 ∧ w.cell? ⟨g, 8, none⟩ = some a8 ∧ w.cell? ⟨g, 9, none⟩ = some a9 :=
 ⟨h.at 0, h.at 1, h.at 2, h.at 3, h.at 4, h.at 5, h.at 6, h.at 7, h.at 8, h.at 9⟩
end Go.Proofs.Ytfbimboemahhhaa
namespace Go.Proofs.Ytfbimboemahhhaa
open Go.Lib (hid)
structure Pl where
 inn : Int
 off : Nat
 size : Nat
 own : List UInt8
structure Sg where
 typ : Nat
 flags : Nat
 vaddr : Nat
 paddr : Nat
 memsz : Nat
 align : Nat
 pl : Pl
structure Se where
 name : Nat
 typ : Nat
 flags : Nat
 addr : Nat
 size : Nat
 link : Nat
 info : Nat
 align : Nat
 entsize : Nat
 pl : Pl
structure Md where
 wide : Bool
 big : Bool
 osabi : Nat
 abi : Nat
 typ : Nat
 mach : Nat
 flags : Nat
 entry : Nat
 segs : List Sg
 secs : List Se
 str : Int
def pl0 : Pl := ⟨0, 0, 0, []⟩
def sg0 : Sg := ⟨0, 0, 0, 0, 0, 0, pl0⟩
def se0 : Se := ⟨0, 0, 0, 0, 0, 0, 0, 0, 0, pl0⟩
instance : Inhabited Sg := ⟨sg0⟩
instance : Inhabited Se := ⟨se0⟩
def I64 (i : Int) : Prop := -9223372036854775808 ≤ i ∧ i ≤ 9223372036854775807
structure Pl.Ok (p : Pl) : Prop where
 inn : I64 p.inn
 off : p.off < 18446744073709551616
 size : p.size < 18446744073709551616
structure Sg.Ok (s : Sg) : Prop where
 typ : s.typ < 4294967296
 flags : s.flags < 4294967296
 vaddr : s.vaddr < 18446744073709551616
 paddr : s.paddr < 18446744073709551616
 memsz : s.memsz < 18446744073709551616
 align : s.align < 18446744073709551616
 pl : s.pl.Ok
structure Se.Ok (s : Se) : Prop where
 name : s.name < 4294967296
 typ : s.typ < 4294967296
 flags : s.flags < 18446744073709551616
 addr : s.addr < 18446744073709551616
 size : s.size < 18446744073709551616
 link : s.link < 4294967296
 info : s.info < 4294967296
 align : s.align < 18446744073709551616
 entsize : s.entsize < 18446744073709551616
 pl : s.pl.Ok
structure Md.Ok (m : Md) : Prop where
 osabi : m.osabi < 256
 abi : m.abi < 256
 typ : m.typ < 65536
 mach : m.mach < 65536
 flags : m.flags < 4294967296
 entry : m.entry < 18446744073709551616
 segs : ∀ s ∈ m.segs, s.Ok
 secs : ∀ s ∈ m.secs, s.Ok
 str : I64 m.str
def isSegN (n : Nat) (i : Int) : Bool := decide (0 ≤ i ∧ i < n)
def Md.seg (m : Md) (i : Int) : Sg := m.segs.getD i.toNat sg0
def Pl.within (p : Pl) (n : Nat) : Bool := decide (p.off + p.size ≤ n)
def Pl.ownMay (p : Pl) : Bool := decide (p.off = 0) && decide (p.size = p.own.length)
def Pl.inMay (p : Pl) (n : Nat) : Bool := decide (p.own.length = 0) && decide (0 < p.size) && p.within n
def Md.may (m : Md) (p : Pl) : Bool :=
 if p.inn = -1 then p.ownMay else isSegN m.segs.length p.inn && decide ((m.seg p.inn).typ = 1) && p.inMay (m.seg p.inn).pl.own.length
def Md.bytes (m : Md) (p : Pl) : List UInt8 :=
 if p.inn = -1 then p.own else if isSegN m.segs.length p.inn && p.within (m.seg p.inn).pl.own.length then (((m.seg p.inn).pl.own).drop p.off).take p.size else []
def lastA (wide : Bool) : Nat := byWide wide 4294967295 18446744073709551615
def Sg.wraps (s : Sg) (wide : Bool) : Bool := decide (0 < s.memsz) && !decide (s.vaddr + (s.memsz - 1) ≤ lastA wide)
def Md.segC (m : Md) (s : Sg) : Nat :=
 if 1 < ones s.align then 6 else if m.may s.pl = false then 1 else if s.typ ≠ 1 then 0 else if s.pl.inn ≠ -1 then 1 else if s.memsz < s.pl.size then 5 else if s.wraps m.wide = true then 12 else 0
def fstC {α : Type} (f : α → Nat) : List α → Nat
 | [] => 0
 | a :: r => if f a = 0 then fstC f r else f a
def loadOf (s : Sg) : List (Nat × Nat) := if s.typ = 1 then [(s.vaddr, s.memsz)] else []
def loads (l : List Sg) : List (Nat × Nat) := l.flatMap loadOf
def Md.segsC (m : Md) : Nat := if fstC m.segC m.segs = 0 then (if rises (loads m.segs) then 0 else 7) else fstC m.segC m.segs
def Se.held (s : Se) : Nat := if s.typ = 0 ∨ s.typ = 8 then 0 else s.size
def Md.secC (m : Md) (s : Se) : Nat := if m.may s.pl = false then 1 else if s.pl.size ≠ s.held then 1 else if m.secs.length < s.link then 10 else 0
def Md.secsC (m : Md) : Nat := fstC m.secC m.secs
def Md.tab (m : Md) : Se := m.secs.getD (m.str - 1).toNat se0
def Md.named (m : Md) : Bool :=
 if m.str = 0 then m.secs.all fun s => decide (s.name = 0)
 else decide (m.tab.typ = 3) && decide (m.tab.pl.inn = -1) && m.secs.all fun s => (nameAt m.tab.pl.own s.name).isSome
def Md.namesC (m : Md) : Nat := if m.str < 0 then 10 else if (m.secs.length : Int) < m.str then 10 else if m.named then 0 else 9
def Md.large (m : Md) : Bool := decide (16 < m.segs.length) || decide (64 < m.secs.length)
def Sg.nums (s : Sg) : List Nat := [s.vaddr, s.paddr, s.memsz, s.align]
def Se.nums (s : Se) : List Nat := [s.flags, s.addr, s.size, s.align, s.entsize]
def Md.nums (m : Md) : List Nat := m.entry :: (m.segs.flatMap Sg.nums ++ m.secs.flatMap Se.nums)
def fitW (wide : Bool) (v : Nat) : Bool := decide (v < 256 ^ byWide wide 4 8)
def Md.fits (m : Md) : Bool := m.nums.all (fitW m.wide)
def Md.chk (m : Md) : Nat :=
 if m.large then 8 else if m.fits = false then 1 else if m.segsC ≠ 0 then m.segsC else if m.secsC ≠ 0 then m.secsC else m.namesC
theorem fstC_zero {α : Type} {f : α → Nat} : ∀ {l : List α}, fstC f l = 0 ↔ ∀ a ∈ l, f a = 0
 | [] => by simp [fstC]
 | a :: r => by
  rw [fstC]
  have ih := fstC_zero (f := f) (l := r)
  by_cases h : f a = 0
  ·rw [if_pos h, ih]
   constructor
   ·intro h1 x hx
    rcases List.mem_cons.1 hx with e | e
    ·exact e ▸ h
    ·exact h1 x e
   ·intro h1 x hx
    exact h1 x (List.mem_cons_of_mem _ hx)
  ·rw [if_neg h]
   exact ⟨fun h1 => absurd h1 h, fun h1 => absurd (h1 a (by simp)) h⟩
theorem fstC_at {α : Type} {f : α → Nat} : ∀ {l : List α} {k : Nat} (h : k < l.length), (∀ a ∈ l.take k, f a = 0) → f l[k] ≠ 0 → fstC f l = f l[k]
 | a :: r, 0, _, _, h2 => by rw [fstC, if_neg (by simpa using h2)]; rfl
 | a :: r, k + 1, h, h1, h2 => by
  rw [fstC, if_pos (h1 a (by simp))]
  exact fstC_at (by simpa using h) (fun x hx => h1 x (by simp [hx])) (by simpa using h2)
theorem takeS {α : Type} (l : List α) (k : Nat) (h : k < l.length) : l.take (k + 1) = l.take k ++ [l[k]] := by
 rw [List.take_add_one, List.getElem?_eq_getElem h]; rfl
theorem belowN_le {a n v : Nat} (ha : a < 18446744073709551616) (h : belowN a n v = true) : a ≤ v := by
 unfold belowN lastN at h
 split at h
 ·simpa using h
 ·simp at h
  omega
theorem mem_loads {l : List Sg} {x : Nat × Nat} (h : x ∈ loads l) : ∃ s ∈ l, s.typ = 1 ∧ x = (s.vaddr, s.memsz) := by
 unfold loads at h
 obtain ⟨s, hs, hx⟩ := List.mem_flatMap.1 h
 unfold loadOf at hx
 split at hx
 ·rename_i ht
  exact ⟨s, hs, ht, by simpa using hx⟩
 ·simp at hx
def begins (s t : Bs) : Bool := decide (t.length ≤ s.length) && decide (s.take t.length = t)
def dotD : Bs := [46, 100, 101, 98, 117, 103]
def dotZ : Bs := [46, 122, 100, 101, 98, 117, 103]
def isDbg (s : Bs) : Bool := begins s dotD || begins s dotZ
def Md.sec (m : Md) (i : Nat) : Se := m.secs.getD i se0
def Md.noStr (m : Md) : Bool := decide (m.str < 1) || decide ((m.secs.length : Int) < m.str)
def Md.strs (m : Md) : Bs := if m.noStr then [] else m.bytes m.tab.pl
def Md.nmOf (m : Md) (s : Se) : Bs := (nameAt m.strs s.name).getD []
def Se.isSym (s : Se) : Bool := decide (s.typ = 2) || decide (s.typ = 18) || decide (s.typ = 4) || decide (s.typ = 9)
def Md.mayGo (m : Md) (i : Nat) : Bool := decide ((m.sec i).flags / 2 % 2 = 0) && !decide ((i : Int) + 1 = m.str)
def Md.alone (m : Md) (i : Nat) : Bool := m.mayGo i && ((m.sec i).isSym || isDbg (m.nmOf (m.sec i)))
def Md.bySym (m : Md) (j i : Nat) : Bool := (List.range j).any fun k => decide ((m.sec k).link = i + 1) && (m.alone k && decide ((m.sec k).typ = 2))
def Md.bySta (m : Md) (j i : Nat) : Bool := (List.range j).any fun k => decide ((m.sec k).link = i + 1) && !m.alone k
def Md.byLnk (m : Md) (i : Nat) : Bool := decide ((m.sec i).typ = 3) && m.mayGo i && m.bySym m.secs.length i && !m.bySta m.secs.length i
def Md.goes (m : Md) (i : Nat) : Bool := m.alone i || m.byLnk i
def seX : Se := ⟨0, 0, 0, 0, 0, 0, 0, 0, 0, ⟨-1, 0, 0, []⟩⟩
def Md.left (m : Md) (i : Nat) : Se := if m.goes i then seX else m.sec i
def Md.cutTo (m : Md) (k : Nat) : List Se := (List.range m.secs.length).map fun i => if i < k then m.left i else m.sec i
def Md.strip (m : Md) : Md := { m with secs := (List.range m.secs.length).map m.left }
theorem Md.sec_at (m : Md) {i : Nat} (h : i < m.secs.length) : m.sec i = m.secs[i] := by unfold Md.sec; rw [List.getD_eq_getElem?_getD, List.getElem?_eq_getElem h]; rfl
theorem Md.bySym_zero (m : Md) (i : Nat) : m.bySym 0 i = false := rfl
theorem Md.bySta_zero (m : Md) (i : Nat) : m.bySta 0 i = false := rfl
theorem Md.bySym_succ (m : Md) (j i : Nat) : m.bySym (j + 1) i = (m.bySym j i || (decide ((m.sec j).link = i + 1) && (m.alone j && decide ((m.sec j).typ = 2)))) := by
 unfold Md.bySym; rw [List.range_succ, List.any_append]; simp
theorem Md.bySta_succ (m : Md) (j i : Nat) : m.bySta (j + 1) i = (m.bySta j i || (decide ((m.sec j).link = i + 1) && !m.alone j)) := by
 unfold Md.bySta; rw [List.range_succ, List.any_append]; simp
theorem Md.cutTo_zero (m : Md) : m.cutTo 0 = m.secs := by
 unfold Md.cutTo
 refine List.ext_getElem (by simp) fun i h1 h2 => ?_
 simp [m.sec_at h2]
theorem Md.cutTo_all (m : Md) {n : Nat} (hn : n = m.secs.length) : m.cutTo n = m.strip.secs := by
 unfold Md.cutTo Md.strip
 refine List.ext_getElem (by simp) fun i h1 h2 => ?_
 have : i < n := by rw [hn]; simpa using h2
 simp [this]
theorem Md.cutTo_len (m : Md) (k : Nat) : (m.cutTo k).length = m.secs.length := by simp [Md.cutTo]
theorem Md.cutTo_at (m : Md) {k : Nat} (h : k < m.secs.length) (h' : k < (m.cutTo k).length) : (m.cutTo k)[k] = m.secs[k] := by
 simp [Md.cutTo, m.sec_at h]
theorem Md.cutTo_succ (m : Md) (k : Nat) : m.cutTo (k + 1) = (m.cutTo k).set k (m.left k) := by
 refine List.ext_getElem (by simp [Md.cutTo]) fun i h1 h2 => ?_
 rw [List.getElem_set]
 simp only [Md.cutTo, List.getElem_map, List.getElem_range]
 by_cases e : k = i
 ·subst e
  simp
 ·rw [if_neg e]
  by_cases e2 : i < k
  ·rw [if_pos (by omega), if_pos e2]
  ·rw [if_neg (by omega), if_neg e2]
theorem Md.cut_same (m : Md) {k : Nat} (h : k < m.secs.length) (hg : m.goes k = false) : m.cutTo (k + 1) = m.cutTo k := by
 rw [m.cutTo_succ k]
 have h' : k < (m.cutTo k).length := by rw [m.cutTo_len]; exact h
 have : m.left k = (m.cutTo k)[k] := by rw [m.cutTo_at h h', Md.left, hg, if_neg (by decide), m.sec_at h]
 rw [this, List.set_getElem_self]
theorem Md.chk_iff {m : Md} : m.chk = 0 ↔ m.large = false ∧ m.fits = true ∧ m.segsC = 0 ∧ m.secsC = 0 ∧ m.namesC = 0 := by
 unfold Md.chk
 constructor
 ·intro h
  split at h
  ·omega
  split at h
  ·omega
  split at h
  ·omega
  split at h
  ·omega
  ·rename_i h1 h2 h3 h4
   exact ⟨by simpa using h1, by simpa using h2, by omega, by omega, h⟩
 ·rintro ⟨h1, h2, h3, h4, h5⟩
  rw [h1, h2]
  simp [h3, h4, h5]
theorem Md.strs_own {m : Md} (h : m.chk = 0) (h0 : m.noStr = false) : m.strs = m.tab.pl.own := by
 obtain ⟨_, _, _, _, h5⟩ := Md.chk_iff.1 h
 unfold Md.strs
 rw [h0, if_neg (by decide)]
 unfold Md.noStr at h0
 simp only [Bool.or_eq_false_iff, decide_eq_false_iff_not] at h0
 unfold Md.namesC at h5
 rw [if_neg (by omega), if_neg h0.2] at h5
 split at h5
 ·rename_i hn
  unfold Md.named at hn
  rw [if_neg (by omega)] at hn
  simp only [Bool.and_eq_true, decide_eq_true_eq] at hn
  unfold Md.bytes
  rw [if_pos hn.1.2]
 ·omega
end Go.Proofs.Ytfbimboemahhhaa
namespace Go.Proofs.Ytfbimboemahhhaa
open Go.Lib (hid)
open Go.RowKit
set_option maxRecDepth 100000
theorem bytes_of (l : Bs) : Lib.bytesOf (l.map fun b => (b.toNat : Int)) = l := by
 simp [Lib.bytesOf, List.map_map, Function.comp_def]
theorem bidx_zero (a : Addr) (c : Nat) (w : World) : (Extern.BytealgIndexByte.indexByte #[.slice (some a) 0 c, .int .u8 0]).run Try.prog w = .ok (.int .i64 (Lib.indexByte [] 0)) w := by rfl
set_option maxHeartbeats 400000 in
theorem bidx_any (A : Option Addr) (n c : Nat) (l : Bs) (B : Nat) (w : World) (h : RB w B A n c l) :
  Calls Try.prog 75 #[.slice A n c, .int .u8 0] w fun e w' => e = .returned (.int .i64 (Lib.indexByte l 0)) ∧ w = w' := by
 rcases A with _ | ⟨b, off, sp⟩
 ·have hl : l = [] := by
   rcases Nat.eq_zero_or_pos n with h0 | h0
   ·exact List.eq_nil_of_length_eq_zero (by rw [← h.len]; exact h0)
   ·obtain ⟨_, _, e, _⟩ := h.pos h0
    cases e
  subst hl
  clear h
  go_enter Try.func75, Try.ntmps75
  go_wp2
  rw [run_callFunc_extern Try.func81 (by kernel_rfl) (by kernel_rfl) (by kernel_rfl) (e := Extern.BytealgIndexByte.indexByte) (by kernel_rfl), Lib.run_indexByteNil w n c 0]
  simp only [Result.andThen]
  rw [Oper.upon_value]
  go_wp2
  go_ret
  exact ⟨rfl, rfl⟩
 ·have run : (Extern.BytealgIndexByte.indexByte #[.slice (some ⟨b, off, sp⟩) n c, .int .u8 0]).run Try.prog w = .ok (.int .i64 (Lib.indexByte l 0)) w := by
   rcases Nat.eq_zero_or_pos n with h0 | h0
   ·have hl : l = [] := List.eq_nil_of_length_eq_zero (by rw [← h.len]; exact h0)
    subst hl
    subst h0
    exact bidx_zero _ _ _
   ·obtain ⟨b', off', e, _, hc⟩ := h.pos h0
    injection e with e
    obtain ⟨rfl, rfl, rfl⟩ := Addr.mk.inj e
    have := Lib.run_indexByteSlice (P := Try.prog) w b off n c (l.map fun b => (b.toNat : Int)) (by simp [h.len]) (fun i hi => by
     rw [hc i (by rw [← h.len]; exact hi)]
     simp [List.getElem?_eq_getElem (show i < l.length by rw [← h.len]; exact hi)]) 0
    rw [bytes_of] at this
    exact this
  clear h
  have R := hid run
  clear run
  go_enter Try.func75, Try.ntmps75
  go_wp2
  rw [run_callFunc_extern Try.func81 (by kernel_rfl) (by kernel_rfl) (by kernel_rfl) (e := Extern.BytealgIndexByte.indexByte) (by kernel_rfl), R.out]
  simp only [Result.andThen]
  rw [Oper.upon_value]
  go_wp2
  go_ret
  exact ⟨rfl, rfl⟩
theorem RB.conv {w : World} {B : Nat} {A : Option Addr} {n c : Nat} {l : List UInt8} (h : RB w B A n c l) (hB : B ≤ w.heap.size) :
  ∀ W, Grow w W → (convert 49 9 (.slice A n c)).run Try.prog W = .ok (.string ⟨l.toArray⟩) W := fun _ hk =>
 (h.belowAt hk hB).str _ _ _ Try.underlying49 Try.underlying5 Try.underlying9
def GotN (l : Bs) (off : Nat) (w : World) (e : Ending) (w' : World) : Prop :=
 e = .returned (.tuple #[.string (bstr ((nameAt l off).getD [])), .bool (nameAt l off).isSome]) ∧ w = w'
theorem gotN_none {l : Bs} {off : Nat} {w : World} (h : nameAt l off = none) : GotN l off w (.returned (.tuple #[.string { data := #[] }, .bool false])) w := by
 unfold GotN; rw [h]; exact ⟨rfl, rfl⟩
theorem gotN_some {l s : Bs} {off : Nat} {w : World} (h : nameAt l off = some s) : GotN l off w (.returned (.tuple #[.string ⟨s.toArray⟩, .bool true])) w := by
 unfold GotN; rw [h]; exact ⟨rfl, rfl⟩
theorem nameAt_far {l : Bs} {off : Nat} (h : l.length ≤ off) : nameAt l off = none := by unfold nameAt; rw [List.drop_of_length_le h]; rfl
set_option maxHeartbeats 400000 in
theorem strGet_any (A : Option Addr) (n c : Nat) (l : Bs) (off : Nat) (w : World) (h : RB w w.heap.size A n c l) (hof : off < 18446744073709551616) :
  Calls Try.prog 63 #[.slice A n c, .int .u64 off] w (GotN l off w) := by
 have HS := hid h
 have HL := hid h.len
 have hc := h.cap
 have hm := h.max
 unfold maxLen at hm
 clear h
 by_cases hfar : n ≤ off
 ·have E := hid (nameAt_far (l := l) (off := off) (by rw [← HL.out]; exact hfar))
  go_enter Try.func63, Try.ntmps63
  go_wp2
  go_ret2
  exact gotN_none E.out
 ·obtain ⟨b, o, rfl, hb, hcell⟩ := HS.out.pos (by omega)
  have hsub := HS.out.sub (p := off) (m := n - off) (by omega) (by omega)
  have e0 : (l.drop off).take (n - off) = l.drop off := by rw [List.take_of_length_le (by rw [List.length_drop, ← HL.out]; exact Nat.le_refl _)]
  rw [e0] at hsub
  have HB := hid hsub
  clear hcell hb hsub e0
  have i1 : (off : Int) ≤ n := by omega
  have i2 : ¬ c = off := by omega
  go_enter Try.func63, Try.ntmps63
  go_wp2_with fail
  refine (bidx_any _ _ _ _ _ _ HB.out).mono ?_
  rintro e w' ⟨rfl, rfl⟩
  rw [indexByte_cut]
  cases hcut : cut0 (l.drop off) with
  | none =>
   have E := hid hcut
   clear hcut
   go_wp2
   go_ret2
   exact gotN_none E.out
  | some s =>
   have E := hid hcut
   obtain ⟨h1, h2, h3⟩ := cut0_some hcut
   rw [List.length_drop, ← HL.out] at h1
   have hf := HB.out.first (m := s.length) (by omega)
   rw [h2] at hf
   have hcv := hf.conv (Nat.le_refl _) w (Grow.refl _)
   clear hcut h2 h3 hf
   dsimp only
   generalize s.length = k at h1 hcv ⊢
   have h4 : k ≤ c - off := by omega
   have h5 : ¬ ((k : Int) < 0) := by omega
   go_wp2
   go_ret2
   exact gotN_some E.out
theorem wpList_appendZ {P : Program} (w : World) {ops : Array Oper} {rest : List Oper} {o : Oper} {a : Act} {Q : Exit → Act → World → Prop} (hgd : o.guard = none) (s x : Operand) (t : TypeId)
  (ho : o.op = .call { callee := .builtin .append, args := #[s, x], argTypes := #[t, t] })
  (base : Nat) (e : TypeId) (zv : Value) (z bytes : Nat) (ht : P.underlying t = some (.slice e)) (hinfo : (P.info? e).map (fun i => (i.zero, i.size, i.bytes)) = some (some zv, z, bytes)) (hzs : zv.cells.size = z) (hz0 : 0 < z)
  (A : Option Addr) (n c : Nat) (l : List (Array Value)) (hs : a.eval s = .slice A n c) (hown : ZO w base e z A n c l)
  (g : Nat) (t' : TypeId) (r : Array Value) (hx : a.eval x = .slice (some ⟨g, 0, none⟩) 1 1) (hr : Blk w g t' r) (hrz : r.size = z) (h1 : r.all (·.oneCell') = true)
  (h63 : n + 1 ≤ maxLen) (hsz : (n + 1) * bytes ≤ 140737488355328) (hbase : base ≤ w.heap.size)
  (h : ∀ A2 c2 w', ZO w' base e z A2 (n + 1) c2 (l ++ [r]) → w.grownBy w' (own A) → (own A2 = own A ∨ own A2 = some w.heap.size) → wpList P ops Q rest (a.put o.dst (.slice A2 (n + 1) c2)) w') : wpList P ops Q (o :: rest) a w := by
 refine wpList_plain hgd fun K hK => ?_
 refine wp_appendZ w s x t ho base e zv z bytes ht hinfo hzs hz0 A n c l hs hown g t' r hx hr hrz h1 h63 hsz hbase fun A2 c2 w' h2 h3 h4 => ?_
 exact hK _ _ (h A2 c2 w' h2 h3 h4)
structure RK (α : Type) where
 z : Nat
 cs : α → Value → Array Value
 by_ : α → List UInt8
def sgC (g : Sg) (s : Value) : Array Value := #[.int .u32 (g.typ : Nat), .int .u32 (g.flags : Nat), .int .u64 (g.vaddr : Nat), .int .u64 (g.paddr : Nat), .int .u64 (g.memsz : Nat), .int .u64 (g.align : Nat), .int .i64 g.pl.inn, .int .u64 (g.pl.off : Nat), .int .u64 (g.pl.size : Nat), s]
def seC (g : Se) (s : Value) : Array Value := #[.int .u32 (g.name : Nat), .int .u32 (g.typ : Nat), .int .u64 (g.flags : Nat), .int .u64 (g.addr : Nat), .int .u64 (g.size : Nat), .int .u32 (g.link : Nat), .int .u32 (g.info : Nat), .int .u64 (g.align : Nat), .int .u64 (g.entsize : Nat), .int .i64 g.pl.inn, .int .u64 (g.pl.off : Nat), .int .u64 (g.pl.size : Nat), s]
def plC (p : Pl) (s : Value) : Array Value := #[.int .i64 p.inn, .int .u64 (p.off : Nat), .int .u64 (p.size : Nat), s]
def mdC (m : Md) (s t : Value) : Array Value := #[.bool m.wide, .bool m.big, .int .u8 (m.osabi : Nat), .int .u8 (m.abi : Nat), .int .u16 (m.typ : Nat), .int .u16 (m.mach : Nat), .int .u32 (m.flags : Nat), .int .u64 (m.entry : Nat), s, t, .int .i64 m.str]
def sgK : RK Sg := ⟨10, sgC, fun g => g.pl.own⟩
def seK : RK Se := ⟨13, seC, fun g => g.pl.own⟩
def RR {α : Type} (K : RK α) (w : World) (B : Nat) (r : Array Value) (a : α) : Prop := ∃ A n c, r = K.cs a (.slice A n c) ∧ RB w B A n c (K.by_ a)
def ZR {α : Type} (K : RK α) (w : World) (B : Nat) (A : Option Addr) (n c : Nat) (L : List α) : Prop := ∃ R, ZS w B K.z A n c R ∧ R.length = L.length ∧ ∀ j (h : j < R.length) (h' : j < L.length), RR K w B R[j] L[j]
section
variable {α : Type} {K : RK α} {w w' : World} {B B0 B' : Nat} {A : Option Addr} {n c : Nat} {L : List α} {r : Array Value} {s : α}
theorem RR.belowAt (h : RR K w B r s) (hb : Below B0 w w') (hB : B ≤ B0) : RR K w' B r s := by
 obtain ⟨A, n, c, e, h1⟩ := h
 exact ⟨A, n, c, e, h1.belowAt hb hB⟩
theorem RR.more (h : RR K w B r s) (hB : B ≤ B') : RR K w B' r s := by
 obtain ⟨A, n, c, e, h1⟩ := h
 exact ⟨A, n, c, e, h1.more hB⟩
theorem ZR.belowAt (h : ZR K w B A n c L) (hb : Below B0 w w') (hB : B ≤ B0) : ZR K w' B A n c L := by
 obtain ⟨R, h1, h2, h3⟩ := h
 exact ⟨R, h1.belowAt hb hB, h2, fun j h h' => (h3 j h h').belowAt hb hB⟩
theorem ZR.more (h : ZR K w B A n c L) (hB : B ≤ B') : ZR K w B' A n c L := by
 obtain ⟨R, h1, h2, h3⟩ := h
 exact ⟨R, h1.more hB, h2, fun j h h' => (h3 j h h').more hB⟩
theorem ZR.grow (h : ZR K w w.heap.size A n c L) (hg : Grow w w') : ZR K w' w'.heap.size A n c L := (h.belowAt hg (Nat.le_refl _)).more hg.size
theorem ZR.len (h : ZR K w B A n c L) : n = L.length := by
 obtain ⟨R, h1, h2, _⟩ := h
 exact h1.len.trans h2
theorem ZR.cap (h : ZR K w B A n c L) : n ≤ c := by
 obtain ⟨R, h1, h2, _⟩ := h
 exact h1.cap
theorem ZR.max (h : ZR K w B A n c L) : c ≤ maxLen := by
 obtain ⟨R, h1, h2, _⟩ := h
 exact h1.max
theorem ZR.nil : ZR K w B none 0 0 [] := ⟨[], ZS.nil, rfl, fun j h => absurd h (by simp)⟩
theorem ZR.pos (h : ZR K w B A n c L) (hn : 0 < n) : ∃ b off, A = some ⟨b, off, none⟩ ∧ b < B := by
 obtain ⟨R, h1, h2, _⟩ := h
 obtain ⟨b, off, e, hb, _⟩ := h1.pos hn
 exact ⟨b, off, e, hb⟩
theorem ZR.at {b off k : Nat} (h : ZR K w B (some ⟨b, off, none⟩) n c L) (hk : k < L.length) : ∃ A1 n1 c1, b < B ∧
  (∀ i v, (K.cs L[k] (.slice A1 n1 c1))[i]? = some v → w.cell? ⟨b, off + k * K.z + i, none⟩ = some v) ∧ RB w B A1 n1 c1 (K.by_ L[k]) := by
 obtain ⟨R, h1, h2, h3⟩ := h
 have hkR : k < R.length := by rw [h2]; exact hk
 obtain ⟨A1, n1, c1, e, r1⟩ := h3 k hkR hk
 obtain ⟨b', off', e', hb, hc⟩ := h1.pos (by have := h1.len; omega)
 injection e' with e'
 injection e' with e1 e2
 subst e1; subst e2
 exact ⟨A1, n1, c1, hb, fun i v hv => hc k hkR i v (by rw [e]; exact hv), r1⟩
end
theorem Blk.c11 {w : World} {g : Nat} {t : TypeId} {a0 a1 a2 a3 a4 a5 a6 a7 a8 a9 a10 : Value} (h : Blk w g t #[a0, a1, a2, a3, a4, a5, a6, a7, a8, a9, a10]) :
  w.cell? ⟨g, 0, none⟩ = some a0 ∧ w.cell? ⟨g, 1, none⟩ = some a1 ∧ w.cell? ⟨g, 2, none⟩ = some a2 ∧ w.cell? ⟨g, 3, none⟩ = some a3 ∧ w.cell? ⟨g, 4, none⟩ = some a4 ∧ w.cell? ⟨g, 5, none⟩ = some a5 ∧ w.cell? ⟨g, 6, none⟩ = some a6 ∧ w.cell? ⟨g, 7, none⟩ = some a7 ∧ w.cell? ⟨g, 8, none⟩ = some a8 ∧ w.cell? ⟨g, 9, none⟩ = some a9 ∧ w.cell? ⟨g, 10, none⟩ = some a10 :=
 ⟨h.at 0, h.at 1, h.at 2, h.at 3, h.at 4, h.at 5, h.at 6, h.at 7, h.at 8, h.at 9, h.at 10⟩
def wid (n : Int) : Bool := decide (n = 1 ∨ n = 2 ∨ n = 4 ∨ n = 8)
theorem wid_cases {n : Int} (h : wid n = true) : n = 1 ∨ n = 2 ∨ n = 4 ∨ n = 8 := of_decide_eq_true h
def wthn (a n s : Int) : Bool := decide (a + n ≤ s)
theorem within_any (a n s : Int) (w : World) (ha : 0 ≤ a) (hn : 0 ≤ n) (hs : s ≤ 18446744073709551615) :
  Calls Try.prog 77 #[.int .u64 a, .int .u64 n, .int .u64 s] w fun e w' => e = .returned (.bool (wthn a n s)) ∧ w = w' := by
 by_cases h1 : n ≤ s
 ·have hd : 0 ≤ s - n := by omega
  by_cases h2 : a ≤ s - n
  ·have E := hid (show wthn a n s = true from decide_eq_true (by omega))
   go_enter Try.func77, Try.ntmps77
   go_wp2
   go_ret
   exact ⟨ret_bool E.out.symm, rfl⟩
  ·have E := hid (show wthn a n s = false from decide_eq_false (by omega))
   have h2' : decide (a ≤ s - n) = false := decide_eq_false h2
   go_enter Try.func77, Try.ntmps77
   go_wp2
   go_ret
   exact ⟨ret_bool E.out.symm, rfl⟩
 ·have E := hid (show wthn a n s = false from decide_eq_false (by omega))
  have h1' : decide (n ≤ s) = false := decide_eq_false h1
  go_enter Try.func77, Try.ntmps77
  go_wp2
  go_ret
  exact ⟨ret_bool E.out.symm, rfl⟩
def fits (v n : Int) : Bool := wid n && decide (v < 256 ^ n.toNat)
theorem mIsSeg_any (m : Md) (A1 A2 : Option Addr) (n1 c1 n2 c2 : Nat) (i : Int) (w : World) : Calls Try.prog 70 #[.agg (mdC m (.slice A1 n1 c1) (.slice A2 n2 c2)), .int .i64 i] w fun e w' => e = .returned (.bool (isSegN n1 i)) ∧ Grow w w' := by
 unfold mdC
 by_cases h0 : 0 ≤ i
 ·have E := hid (show isSegN n1 i = decide (i < (n1 : Int)) by unfold isSegN; simp [h0])
  go_enter Try.func70, Try.ntmps70
  go_wp2
  go_ret
  exact ⟨ret_bool E.out.symm, Grow.of_alloc _ _⟩
 ·have E := hid (show isSegN n1 i = false by unfold isSegN; simp [h0])
  have h1 : decide (0 ≤ i) = false := decide_eq_false h0
  clear h0
  go_enter Try.func70, Try.ntmps70
  go_wp2
  go_ret
  exact ⟨ret_bool E.out.symm, Grow.of_alloc _ _⟩
theorem mIsWithin_any (p : Pl) (S : Value) (A : Option Addr) (n c : Nat) (w : World) (hn : n ≤ maxLen) : Calls Try.prog 71 #[.agg (plC p S), .slice A n c] w fun e w' => e = .returned (.bool (p.within n)) ∧ Grow w w' := by
 unfold plC
 unfold maxLen at hn
 have z : IntKind.u64.wrap (n : Int) = (n : Int) := by rw [IntKind.wrap_u64]; omega
 have E := hid (show wthn (p.off : Nat) (p.size : Nat) (n : Nat) = p.within n by unfold wthn Pl.within; rw [Bool.eq_iff_iff, decide_eq_true_iff, decide_eq_true_iff]; omega)
 generalize p.within n = R at E ⊢
 generalize p.off = a at E ⊢
 generalize p.size = b at E ⊢
 generalize p.inn = i
 go_enter Try.func71, Try.ntmps71
 go_wp2_with (go_at_call 77; refine (within_any _ _ _ _ (by omega) (by omega) (by omega)).mono ?_; rintro e w' ⟨rfl, rfl⟩; rw [E.out])
 go_ret
 exact ⟨rfl, Grow.of_alloc _ _⟩
theorem may_own {m : Md} {p : Pl} (h : p.inn = -1) : m.may p = p.ownMay := by unfold Md.may; rw [if_pos h]
theorem may_in {m : Md} {p : Pl} (h : p.inn ≠ -1) : m.may p = (isSegN m.segs.length p.inn && decide ((m.seg p.inn).typ = 1) && p.inMay (m.seg p.inn).pl.own.length) := by unfold Md.may; rw [if_neg h]
theorem mdC_cells (m : Md) (s t : Value) : ∃ x0 x1 x2 x3 x4 x5 x6 x7 x9 x10 : Value, mdC m s t = #[x0, x1, x2, x3, x4, x5, x6, x7, s, x9, x10] := ⟨_, _, _, _, _, _, _, _, _, _, rfl⟩
theorem isSegN_true {n : Nat} {i : Int} (h : isSegN n i = true) : ∃ k : Nat, i = (k : Int) ∧ k < n := by
 unfold isSegN at h
 simp at h
 exact ⟨i.toNat, by omega, by omega⟩
theorem Md.seg_nat (m : Md) (k : Nat) (h : k < m.segs.length) : m.seg (k : Int) = m.segs[k] := by
 unfold Md.seg
 simp [List.getD_eq_getElem?_getD, h]
def cutA (a : Addr) (c p : Nat) : Addr := if c = p then a else a.add p
section
variable {w : World} {B n c : Nat} {a : Addr} {l : List UInt8}
theorem RB.cut (h : RB w B (some a) n c l) {p m : Nat} (hp : p + m ≤ n) : RB w B (some (cutA a c p)) m (c - p) ((l.drop p).take m) := by
 have hl := h.len
 have hcap := h.cap
 have hmax := h.max
 by_cases h0 : 0 < m
 ·obtain ⟨b, off, e, -, -⟩ := h.pos (by omega)
  injection e with e
  subst e
  have := h.sub hp h0
  have e2 : cutA ⟨b, off, none⟩ c p = ⟨b, off + p, none⟩ := by
   unfold cutA Addr.add
   rw [if_neg (by omega)]
   split <;> simp_all
  rw [e2]
  exact this
 ·have : m = 0 := by omega
  subst this
  exact ⟨by simp, by omega, by omega, fun h => absurd h (by omega)⟩
end
theorem run_cut_lh {P : Program} (t : TypeId) (ht : P.underlying t = some (.slice (P.elem t))) (hz : ∀ W, (sizeOf (P.elem t)).run P W = .ok 1 W) (a : Addr) (n c : Nat) (kl kh : IntKind) (p q : Nat) (hpq : p ≤ q) (hq : q ≤ c) (W : World) :
  (Instr.slice t (.slice (some a) n c) (some (.int kl (p : Int))) (some (.int kh (q : Int))) none).run P W = .ok (.slice (some (cutA a c p)) (q - p) (c - p)) W := by
 rw [run_slice_lh W t (some a) n c ht kl kh p q (by omega) (by omega) (by omega), hz]
 simp only [Result.andThen, sliced, Int.toNat_natCast, Nat.mul_one, Option.map_some]
 unfold cutA
 split <;> rfl
theorem cut_any {w : World} {B n c : Nat} {A : Option Addr} {l : List UInt8} (h : RB w B A n c l) {p m : Nat} (hp : p + m ≤ n) :
  ∃ A' c', (∀ W, (Instr.slice 49 (.slice A n c) (some (.int .u64 (p : Int))) (some (.int .u64 ((p : Int) + (m : Int)))) none).run Try.prog W = .ok (.slice A' m c') W) ∧ RB w B A' m c' ((l.drop p).take m) := by
 have hcap := h.cap
 have hmax := h.max
 have hz8 : ∀ W, (sizeOf (Try.prog.elem 49)).run Try.prog W = .ok 1 W := fun W => by kernel_rfl
 rcases A with _ | a
 ·have hn : n = 0 := by
   rcases Nat.eq_zero_or_pos n with h0 | h0
   ·exact h0
   ·obtain ⟨_, _, e, _⟩ := h.pos h0
    cases e
  subst hn
  obtain rfl : p = 0 := by omega
  obtain rfl : m = 0 := by omega
  refine ⟨none, c, fun W => ?_, by simp, Nat.zero_le _, hmax, fun h => absurd h (by omega)⟩
  have := run_slice_lh (P := Try.prog) W 49 none 0 c (by kernel_rfl) .u64 .u64 0 0 (by omega) (by omega) (by omega)
  rw [hz8] at this
  simpa [Result.andThen, sliced] using this
 ·refine ⟨some (cutA a c p), c - p, fun W => ?_, h.cut hp⟩
  have := run_cut_lh (P := Try.prog) 49 (by kernel_rfl) hz8 a n c .u64 .u64 p (p + m) (by omega) (by omega) W
  rw [show p + m - p = m by omega] at this
  simpa using this
end Go.Proofs.Ytfbimboemahhhaa
