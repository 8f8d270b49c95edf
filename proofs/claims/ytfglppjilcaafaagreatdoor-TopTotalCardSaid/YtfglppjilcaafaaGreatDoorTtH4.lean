/-
  Several texts in one: Models, as plain data; A plan, as plain data; The contracts of head; append of one struct in a list of operations; a store beside structs of the call's own; Models in memory; The contracts of (line); The contract of (line); The contract of (line).
-/
import Derived.Test.YtfglppjilcaafaaGreatDoorTtH2
import Derived.Test.YtfglppjilcaafaaGreatDoorTtH3
import Derived.Test.YtfglppjilcaafaaGreatDoorTtH1
import Derived.Laws.Bits64b
import Derived.Deep.OwnRows
import Derived.WalkKit
import Derived.BigQuiet
import Derived.Deep.QuietTactic
import Derived.Lib.Hide
import Derived.Laws.MakeOwn
namespace Go.Proofs.YtfglppjilcaafaaGreatDoor
open Go.Lib (hid)
structure Pl where
 inn : Int
 off : Nat
 size : Nat
 own : List UInt8
structure Sg where
 typ : Nat
 flags : Nat
 vaddr : Nat
 paddr : Nat
 memsz : Nat
 align : Nat
 pl : Pl
structure Se where
 name : Nat
 typ : Nat
 flags : Nat
 addr : Nat
 size : Nat
 link : Nat
 info : Nat
 align : Nat
 entsize : Nat
 pl : Pl
structure Md where
 wide : Bool
 big : Bool
 osabi : Nat
 abi : Nat
 typ : Nat
 mach : Nat
 flags : Nat
 entry : Nat
 segs : List Sg
 secs : List Se
 str : Int
def pl0 : Pl := ⟨0, 0, 0, []⟩
def sg0 : Sg := ⟨0, 0, 0, 0, 0, 0, pl0⟩
def se0 : Se := ⟨0, 0, 0, 0, 0, 0, 0, 0, 0, pl0⟩
instance : Inhabited Sg := ⟨sg0⟩
instance : Inhabited Se := ⟨se0⟩
def I64 (i : Int) : Prop := -9223372036854775808 ≤ i ∧ i ≤ 9223372036854775807
structure Pl.Ok (p : Pl) : Prop where
 inn : I64 p.inn
 off : p.off < 18446744073709551616
 size : p.size < 18446744073709551616
structure Sg.Ok (s : Sg) : Prop where
 typ : s.typ < 4294967296
 flags : s.flags < 4294967296
 vaddr : s.vaddr < 18446744073709551616
 paddr : s.paddr < 18446744073709551616
 memsz : s.memsz < 18446744073709551616
 align : s.align < 18446744073709551616
 pl : s.pl.Ok
structure Se.Ok (s : Se) : Prop where
 name : s.name < 4294967296
 typ : s.typ < 4294967296
 flags : s.flags < 18446744073709551616
 addr : s.addr < 18446744073709551616
 size : s.size < 18446744073709551616
 link : s.link < 4294967296
 info : s.info < 4294967296
 align : s.align < 18446744073709551616
 entsize : s.entsize < 18446744073709551616
 pl : s.pl.Ok
structure Md.Ok (m : Md) : Prop where
 osabi : m.osabi < 256
 abi : m.abi < 256
 typ : m.typ < 65536
 mach : m.mach < 65536
 flags : m.flags < 4294967296
 entry : m.entry < 18446744073709551616
 segs : ∀ s ∈ m.segs, s.Ok
 secs : ∀ s ∈ m.secs, s.Ok
 str : I64 m.str
def isSegN (n : Nat) (i : Int) : Bool := decide (0 ≤ i ∧ i < n)
def Md.seg (m : Md) (i : Int) : Sg := m.segs.getD i.toNat sg0
def Pl.within (p : Pl) (n : Nat) : Bool := decide (p.off + p.size ≤ n)
def Pl.ownMay (p : Pl) : Bool := decide (p.off = 0) && decide (p.size = p.own.length)
def Pl.inMay (p : Pl) (n : Nat) : Bool := decide (p.own.length = 0) && decide (0 < p.size) && p.within n
def Md.may (m : Md) (p : Pl) : Bool :=
 if p.inn = -1 then p.ownMay else isSegN m.segs.length p.inn && decide ((m.seg p.inn).typ = 1) && p.inMay (m.seg p.inn).pl.own.length
def lastA (wide : Bool) : Nat := byWide wide 4294967295 18446744073709551615
def Sg.wraps (s : Sg) (wide : Bool) : Bool := decide (0 < s.memsz) && !decide (s.vaddr + (s.memsz - 1) ≤ lastA wide)
def Md.segC (m : Md) (s : Sg) : Nat :=
 if 1 < ones s.align then 6 else if m.may s.pl = false then 1 else if s.typ ≠ 1 then 0 else if s.pl.inn ≠ -1 then 1 else if s.memsz < s.pl.size then 5 else if s.wraps m.wide = true then 12 else 0
def fstC {α : Type} (f : α → Nat) : List α → Nat
 | [] => 0
 | a :: r => if f a = 0 then fstC f r else f a
def loadOf (s : Sg) : List (Nat × Nat) := if s.typ = 1 then [(s.vaddr, s.memsz)] else []
def loads (l : List Sg) : List (Nat × Nat) := l.flatMap loadOf
def Md.segsC (m : Md) : Nat := if fstC m.segC m.segs = 0 then (if rises (loads m.segs) then 0 else 7) else fstC m.segC m.segs
def Se.held (s : Se) : Nat := if s.typ = 0 ∨ s.typ = 8 then 0 else s.size
def Md.secC (m : Md) (s : Se) : Nat := if m.may s.pl = false then 1 else if s.pl.size ≠ s.held then 1 else if m.secs.length < s.link then 10 else 0
def Md.secsC (m : Md) : Nat := fstC m.secC m.secs
def Md.tab (m : Md) : Se := m.secs.getD (m.str - 1).toNat se0
def Md.named (m : Md) : Bool :=
 if m.str = 0 then m.secs.all fun s => decide (s.name = 0)
 else decide (m.tab.typ = 3) && decide (m.tab.pl.inn = -1) && m.secs.all fun s => (nameAt m.tab.pl.own s.name).isSome
def Md.namesC (m : Md) : Nat := if m.str < 0 then 10 else if (m.secs.length : Int) < m.str then 10 else if m.named then 0 else 9
def Md.large (m : Md) : Bool := decide (16 < m.segs.length) || decide (64 < m.secs.length)
def Sg.nums (s : Sg) : List Nat := [s.vaddr, s.paddr, s.memsz, s.align]
def Se.nums (s : Se) : List Nat := [s.flags, s.addr, s.size, s.align, s.entsize]
def Md.nums (m : Md) : List Nat := m.entry :: (m.segs.flatMap Sg.nums ++ m.secs.flatMap Se.nums)
def fitW (wide : Bool) (v : Nat) : Bool := decide (v < 256 ^ byWide wide 4 8)
def Md.fits (m : Md) : Bool := m.nums.all (fitW m.wide)
def Md.chk (m : Md) : Nat :=
 if m.large then 8 else if m.fits = false then 1 else if m.segsC ≠ 0 then m.segsC else if m.secsC ≠ 0 then m.secsC else m.namesC
theorem fstC_zero {α : Type} {f : α → Nat} : ∀ {l : List α}, fstC f l = 0 ↔ ∀ a ∈ l, f a = 0
 | [] => by simp [fstC]
 | a :: r => by
  rw [fstC]
  have ih := fstC_zero (f := f) (l := r)
  by_cases h : f a = 0
  ·rw [if_pos h, ih]
   constructor
   ·intro h1 x hx
    rcases List.mem_cons.1 hx with e | e
    ·exact e ▸ h
    ·exact h1 x e
   ·intro h1 x hx
    exact h1 x (List.mem_cons_of_mem _ hx)
  ·rw [if_neg h]
   exact ⟨fun h1 => absurd h1 h, fun h1 => absurd (h1 a (by simp)) h⟩
theorem fstC_at {α : Type} {f : α → Nat} : ∀ {l : List α} {k : Nat} (h : k < l.length), (∀ a ∈ l.take k, f a = 0) → f l[k] ≠ 0 → fstC f l = f l[k]
 | a :: r, 0, _, _, h2 => by rw [fstC, if_neg (by simpa using h2)]; rfl
 | a :: r, k + 1, h, h1, h2 => by
  rw [fstC, if_pos (h1 a (by simp))]
  exact fstC_at (by simpa using h) (fun x hx => h1 x (by simp [hx])) (by simpa using h2)
theorem takeS {α : Type} (l : List α) (k : Nat) (h : k < l.length) : l.take (k + 1) = l.take k ++ [l[k]] := by
 rw [List.take_add_one, List.getElem?_eq_getElem h]; rfl
theorem loads_snoc (l : List Sg) (k : Nat) (h : k < l.length) : loads (l.take (k + 1)) = loads (l.take k) ++ loadOf l[k] := by
 rw [takeS l k h, loads, List.flatMap_append]
 simp [loads]
theorem Md.chk_zero {m : Md} (h : m.chk = 0) : (∀ s ∈ m.segs, m.segC s = 0) ∧ rises (loads m.segs) = true ∧ (∀ s ∈ m.secs, m.secC s = 0) := by
 unfold Md.chk at h
 split at h
 ·omega
 split at h
 ·omega
 split at h
 ·rename_i h1
  omega
 split at h
 ·rename_i h1
  omega
 ·rename_i h1 h2
  have h1 : m.segsC = 0 := by omega
  have h2 : m.secsC = 0 := by omega
  unfold Md.segsC at h1
  split at h1
  ·rename_i h3
   refine ⟨fstC_zero.1 h3, ?_, fstC_zero.1 h2⟩
   split at h1
   ·assumption
   ·omega
  ·rename_i h3
   exact absurd h1 h3
theorem Md.secC_zero {m : Md} {s : Se} (h : m.secC s = 0) : m.may s.pl = true ∧ s.pl.size = s.held := by
 unfold Md.secC at h
 split at h
 ·omega
 split at h
 ·omega
 ·rename_i h1 h2
  exact ⟨by simpa using h1, by omega⟩
theorem mem_loads {l : List Sg} {x : Nat × Nat} (h : x ∈ loads l) : ∃ s ∈ l, s.typ = 1 ∧ x = (s.vaddr, s.memsz) := by
 unfold loads at h
 obtain ⟨s, hs, hx⟩ := List.mem_flatMap.1 h
 unfold loadOf at hx
 split at hx
 ·rename_i ht
  exact ⟨s, hs, ht, by simpa using hx⟩
 ·simp at hx
def nxt (e v a : Nat) : Nat := e + (v + (18446744073709551616 - e)) % (max a 1)
def plc (e v a : Nat) : Nat := min (nxt e v a) 65537
def fin (e v a n : Nat) : Nat := min (plc e v a + n) 65537
theorem two_pow64 : (2 : Nat) ^ 64 = 18446744073709551616 := by decide
theorem pow_of {a : Nat} (ha : a < 18446744073709551616) (h : ones a ≤ 1) : ∃ k, k < 64 ∧ max a 1 = 2 ^ k := by
 rcases (ones_one a ha).1 h with rfl | ⟨k, rfl⟩
 ·exact ⟨0, by omega, by decide⟩
 ·refine ⟨k, ?_, ?_⟩
  ·rcases Nat.lt_or_ge k 64 with h1 | h1
   ·exact h1
   ·have := Nat.pow_le_pow_right (show 0 < 2 by decide) h1
    rw [two_pow64] at this
    omega
  ·have := Nat.two_pow_pos k
   omega
theorem pow_dvd {k : Nat} (h : k < 64) : 2 ^ k ∣ 18446744073709551616 := by
 rw [← two_pow64]
 exact Nat.pow_dvd_pow 2 (by omega)
theorem nxt_ge (e v a : Nat) : e ≤ nxt e v a := Nat.le_add_right _ _
theorem nxt_lt (e v a : Nat) : nxt e v a < e + max a 1 := by
 unfold nxt
 have := Nat.mod_lt (v + (18446744073709551616 - e)) (show max a 1 > 0 by omega)
 omega
theorem nxt_one (e v a : Nat) (h : a ≤ 1) : nxt e v a = e := by
 unfold nxt
 rw [show max a 1 = 1 by omega, Nat.mod_one]
 rfl
theorem plc_le (e v a : Nat) : plc e v a ≤ 65537 := Nat.min_le_right _ _
theorem fin_le (e v a n : Nat) : fin e v a n ≤ 65537 := Nat.min_le_right _ _
theorem fin_ge {e v a n : Nat} (he : e ≤ 65537) : e ≤ fin e v a n := by
 have := nxt_ge e v a
 unfold fin plc
 omega
theorem fin_in {e v a n : Nat} (h : fin e v a n ≤ 65536) : plc e v a = nxt e v a ∧ fin e v a n = nxt e v a + n ∧ plc e v a + n = fin e v a n ∧ e ≤ plc e v a := by
 have := nxt_ge e v a
 unfold fin plc at *
 omega
namespace Md
variable (m : Md)
def sg (k : Nat) : Sg := m.segs.getD k sg0
def se (k : Nat) : Se := m.secs.getD k se0
def e1 : Nat := hSize m.wide + byWide m.wide 32 56 * m.segs.length
def eL : Nat → Nat
 | 0 => m.e1
 | k + 1 => if (m.sg k).typ = 1 then fin (eL k) (m.sg k).vaddr (m.sg k).align (m.sg k).pl.size else eL k
def P1 (k : Nat) : Nat := if (m.sg k).typ = 1 then plc (m.eL k) (m.sg k).vaddr (m.sg k).align else 0
def eO : Nat → Nat
 | 0 => m.eL m.segs.length
 | k + 1 => if (m.sg k).typ = 1 then eO k else if (m.sg k).pl.inn = -1 then fin (eO k) 0 8 (m.sg k).pl.size else eO k
def P2 (k : Nat) : Nat := if (m.sg k).typ = 1 then m.P1 k else if (m.sg k).pl.inn = -1 then plc (m.eO k) 0 8 else m.P1 (m.sg k).pl.inn.toNat + (m.sg k).pl.off
def eS : Nat → Nat
 | 0 => m.eO m.segs.length
 | k + 1 => if (m.se k).pl.inn = -1 then fin (eS k) 0 8 (m.se k).pl.size else eS k
def P3 (k : Nat) : Nat := if (m.se k).pl.inn = -1 then plc (m.eS k) 0 8 else m.P2 (m.se k).pl.inn.toNat + (m.se k).pl.off
def phoff : Nat := if 0 < m.segs.length then hSize m.wide else 0
def shoff : Nat := if 0 < m.secs.length then plc (m.eS m.secs.length) 0 8 else 0
def eT : Nat := if 0 < m.secs.length then fin (m.eS m.secs.length) 0 8 (byWide m.wide 40 64 * (m.secs.length + 1)) else m.eS m.secs.length
theorem e1_le (h : m.segs.length ≤ 16) : m.e1 ≤ 65536 := by
 unfold e1 hSize byWide
 split <;> omega
theorem eL_le (h : m.segs.length ≤ 16) : ∀ k, m.eL k ≤ 65537
 | 0 => by rw [eL]; have := m.e1_le h; omega
 | k + 1 => by
  rw [eL]
  split
  ·exact fin_le _ _ _ _
  ·exact eL_le h k
theorem eO_le (h : m.segs.length ≤ 16) : ∀ k, m.eO k ≤ 65537
 | 0 => m.eL_le h _
 | k + 1 => by
  rw [eO]
  split
  ·exact eO_le h k
  split
  ·exact fin_le _ _ _ _
  ·exact eO_le h k
theorem eS_le (h : m.segs.length ≤ 16) : ∀ k, m.eS k ≤ 65537
 | 0 => m.eO_le h _
 | k + 1 => by
  rw [eS]
  split
  ·exact fin_le _ _ _ _
  ·exact eS_le h k
theorem P1_le (k : Nat) : m.P1 k ≤ 65537 := by
 unfold P1
 split
 ·exact plc_le _ _ _
 ·omega
end Md
end Go.Proofs.YtfglppjilcaafaaGreatDoor
namespace Go.Proofs.YtfglppjilcaafaaGreatDoor
open Go.Lib (hid)
open Go.RowKit
theorem plByClass_any (wide big : Bool) (x y : Nat) (w : World) : Calls Tryz.prog 118 #[.agg #[.bool wide, .bool big], .int .i64 x, .int .i64 y] w fun e w' => e = .returned (.int .i64 (byWide wide x y : Nat)) ∧ Grow w w' := by
 cases wide
 ·go_enter Tryz.func118, Tryz.ntmps118
  go_wp2
  go_ret
  exact ⟨rfl, Grow.of_alloc _ _⟩
 ·go_enter Tryz.func118, Tryz.ntmps118
  go_wp2
  go_ret
  exact ⟨rfl, Grow.of_alloc _ _⟩
theorem plHSize_any (wide big : Bool) (w : World) : Calls Tryz.prog 64 #[.agg #[.bool wide, .bool big]] w fun e w' => e = .returned (.int .i64 (hSize wide : Nat)) ∧ Grow w w' := by
 go_enter Tryz.func64, Tryz.ntmps64
 go_wp2_with fail
 refine (plByClass_any wide big 52 64 _).mono ?_
 rintro e w1 ⟨rfl, hg⟩
 have HG := hid ((Grow.of_alloc _ _).trans hg)
 clear hg
 go_wp2
 go_ret
 exact ⟨rfl, HG.out⟩
theorem plPSize_any (wide big : Bool) (w : World) : Calls Tryz.prog 59 #[.agg #[.bool wide, .bool big]] w fun e w' => e = .returned (.int .i64 (byWide wide 32 56 : Nat)) ∧ Grow w w' := by
 cases wide
 ·go_enter Tryz.func59, Tryz.ntmps59
  go_wp2
  go_ret
  exact ⟨rfl, Grow.of_alloc _ _⟩
 ·go_enter Tryz.func59, Tryz.ntmps59
  go_wp2
  go_ret
  exact ⟨rfl, Grow.of_alloc _ _⟩
theorem plSSize_any (wide big : Bool) (w : World) : Calls Tryz.prog 62 #[.agg #[.bool wide, .bool big]] w fun e w' => e = .returned (.int .i64 (byWide wide 40 64 : Nat)) ∧ Grow w w' := by
 cases wide
 ·go_enter Tryz.func62, Tryz.ntmps62
  go_wp2
  go_ret
  exact ⟨rfl, Grow.of_alloc _ _⟩
 ·go_enter Tryz.func62, Tryz.ntmps62
  go_wp2
  go_ret
  exact ⟨rfl, Grow.of_alloc _ _⟩
theorem count_any (n s : Nat) (w : World) (hn : n ≤ 1000) (hs : s ≤ 1000) : Calls Tryz.prog 106 #[.int .i64 (n : Int), .int .i64 (s : Int)] w fun e w' => e = .returned (.int .u64 ((s * n : Nat) : Int)) ∧ w = w' := by
 have h1 : IntKind.u64.wrap (n : Int) = (n : Int) := by rw [IntKind.wrap_u64]; omega
 have h2 : IntKind.u64.wrap (s : Int) = (s : Int) := by rw [IntKind.wrap_u64]; omega
 have hb : s * n ≤ 1000 * 1000 := Nat.mul_le_mul hs hn
 have h3 : IntKind.u64.wrap ((n : Int) * (s : Int)) = ((s * n : Nat) : Int) := by
  have : (n : Int) * (s : Int) = ((s * n : Nat) : Int) := by rw [Nat.mul_comm]; simp
  rw [this, IntKind.wrap_u64]
  omega
 generalize s * n = r at h3 ⊢
 clear hb hn hs
 go_enter Tryz.func106, Tryz.ntmps106
 go_wp2
 go_ret
 exact ⟨rfl, rfl⟩
theorem next_any (e v a : Nat) (w : World) (he : e ≤ 65537) (ha : a < 18446744073709551616) (h1 : ones a ≤ 1) :
  Calls Tryz.prog 142 #[.int .u64 (e : Int), .int .u64 (v : Int), .int .u64 (a : Int)] w fun en w' => en = .returned (.int .u64 (nxt e v a : Nat)) ∧ w = w' := by
 obtain ⟨k, hk, hM⟩ := pow_of ha h1
 have hlt := nxt_lt e v a
 obtain ⟨X, hX⟩ : ∃ X, (v + (18446744073709551616 - e)) % 18446744073709551616 = X := ⟨_, rfl⟩
 obtain ⟨M, hMM⟩ : ∃ M, max a 1 = M := ⟨_, rfl⟩
 have hXl : X < 18446744073709551616 := by omega
 have hM1 : 1 ≤ M := by omega
 have hM2 : M < 18446744073709551616 := by omega
 have q1 : IntKind.u64.wrap ((v : Int) - (e : Int)) = (X : Int) := by rw [IntKind.wrap_u64]; omega
 have q2 : IntKind.u64.wrap ((M : Int) - 1) = ((M - 1 : Nat) : Int) := by rw [IntKind.wrap_u64]; omega
 have q3 : bits BinOp.and IntKind.u64 (X : Int) ((M - 1 : Nat) : Int) = ((X &&& (M - 1) : Nat) : Int) := bits_and_u64_nat X (M - 1) hXl (by omega)
 have q4 : X &&& (M - 1) = X % M := by
  rw [← hMM, hM]
  exact Nat.and_two_pow_sub_one_eq_mod _ _
 have q5 : X % M = nxt e v a - e := by
  unfold nxt
  rw [hMM, ← hX, ← hMM, hM, Nat.mod_mod_of_dvd _ (pow_dvd hk)]
  omega
 have hM3 : M ≤ 9223372036854775808 := by
  rw [← hMM, hM]
  exact Nat.le_trans (Nat.pow_le_pow_right (show 0 < 2 by decide) (show k ≤ 63 by omega)) (by decide)
 have hge := nxt_ge e v a
 rw [q4, q5] at q3
 rw [hMM] at hlt
 have q6 : IntKind.u64.wrap ((e : Int) + ((nxt e v a - e : Nat) : Int)) = (nxt e v a : Nat) := by rw [IntKind.wrap_u64]; omega
 generalize nxt e v a - e = D at q3 q6
 generalize nxt e v a = R at q6 ⊢
 have q7 : (if (a : Int) < 1 then (1 : Int) else (a : Int)) = (M : Int) := by split <;> omega
 clear hX hM hMM q4 q5 hge hlt hk he ha h1
 generalize M - 1 = M' at q2 q3
 go_enter Tryz.func142, Tryz.ntmps142
 go_wp2
 go_ret
 exact ⟨rfl, rfl⟩
end Go.Proofs.YtfglppjilcaafaaGreatDoor
namespace Go.Proofs.YtfglppjilcaafaaGreatDoor
open Go.Lib (hid)
open Go.RowKit
theorem wpList_appendZ {P : Program} (w : World) {ops : Array Oper} {rest : List Oper} {o : Oper} {a : Act} {Q : Exit → Act → World → Prop} (hgd : o.guard = none) (s x : Operand) (t : TypeId)
  (ho : o.op = .call { callee := .builtin .append, args := #[s, x], argTypes := #[t, t] })
  (base : Nat) (e : TypeId) (zv : Value) (z bytes : Nat) (ht : P.underlying t = some (.slice e)) (hinfo : (P.info? e).map (fun i => (i.zero, i.size, i.bytes)) = some (some zv, z, bytes)) (hzs : zv.cells.size = z) (hz0 : 0 < z)
  (A : Option Addr) (n c : Nat) (l : List (Array Value)) (hs : a.eval s = .slice A n c) (hown : ZO w base e z A n c l)
  (g : Nat) (t' : TypeId) (r : Array Value) (hx : a.eval x = .slice (some ⟨g, 0, none⟩) 1 1) (hr : Blk w g t' r) (hrz : r.size = z) (h1 : r.all (·.oneCell') = true)
  (h63 : n + 1 ≤ maxLen) (hsz : (n + 1) * bytes ≤ 140737488355328) (hbase : base ≤ w.heap.size)
  (h : ∀ A2 c2 w', ZO w' base e z A2 (n + 1) c2 (l ++ [r]) → w.grownBy w' (own A) → (own A2 = own A ∨ own A2 = some w.heap.size) → wpList P ops Q rest (a.put o.dst (.slice A2 (n + 1) c2)) w') : wpList P ops Q (o :: rest) a w := by
 refine wpList_plain hgd fun K hK => ?_
 refine wp_appendZ w s x t ho base e zv z bytes ht hinfo hzs hz0 A n c l hs hown g t' r hx hr hrz h1 h63 hsz hbase fun A2 c2 w' h2 h3 h4 => ?_
 exact hK _ _ (h A2 c2 w' h2 h3 h4)
theorem ZO.other {w : World} {base : Nat} {e : TypeId} {z : Nat} {A : Option Addr} {n c : Nat} {l : List (Array Value)} (h : ZO w base e z A n c l) {g : Nat} (hg : own A ≠ some g) (cs : Array Value) : ZO (w.setRow g cs) base e z A n c l := by
 refine ⟨⟨h.1.1, ?_⟩, h.2⟩
 rcases h.1.2 with h0 | ⟨g', cap, cur, hv, hb, hh, r⟩
 ·exact .inl h0
 ·refine .inr ⟨g', cap, cur, hv, hb, ?_, r⟩
  injection hv with e1 _ _
  subst e1
  have hne : g' ≠ g := fun e => hg (by rw [e]; rfl)
  rw [setRow_other w g g' cs (by omega)]
  exact hh
end Go.Proofs.YtfglppjilcaafaaGreatDoor
namespace Go.Proofs.YtfglppjilcaafaaGreatDoor
open Go.Lib (hid)
open Go.RowKit
structure RK (α : Type) where
 z : Nat
 cs : α → Value → Array Value
 by_ : α → List UInt8
def sgC (g : Sg) (s : Value) : Array Value := #[.int .u32 (g.typ : Nat), .int .u32 (g.flags : Nat), .int .u64 (g.vaddr : Nat), .int .u64 (g.paddr : Nat), .int .u64 (g.memsz : Nat), .int .u64 (g.align : Nat), .int .i64 g.pl.inn, .int .u64 (g.pl.off : Nat), .int .u64 (g.pl.size : Nat), s]
def seC (g : Se) (s : Value) : Array Value := #[.int .u32 (g.name : Nat), .int .u32 (g.typ : Nat), .int .u64 (g.flags : Nat), .int .u64 (g.addr : Nat), .int .u64 (g.size : Nat), .int .u32 (g.link : Nat), .int .u32 (g.info : Nat), .int .u64 (g.align : Nat), .int .u64 (g.entsize : Nat), .int .i64 g.pl.inn, .int .u64 (g.pl.off : Nat), .int .u64 (g.pl.size : Nat), s]
def plC (p : Pl) (s : Value) : Array Value := #[.int .i64 p.inn, .int .u64 (p.off : Nat), .int .u64 (p.size : Nat), s]
def mdC (m : Md) (s t : Value) : Array Value := #[.bool m.wide, .bool m.big, .int .u8 (m.osabi : Nat), .int .u8 (m.abi : Nat), .int .u16 (m.typ : Nat), .int .u16 (m.mach : Nat), .int .u32 (m.flags : Nat), .int .u64 (m.entry : Nat), s, t, .int .i64 m.str]
def sgK : RK Sg := ⟨10, sgC, fun g => g.pl.own⟩
def seK : RK Se := ⟨13, seC, fun g => g.pl.own⟩
def RR {α : Type} (K : RK α) (w : World) (B : Nat) (r : Array Value) (a : α) : Prop := ∃ A n c, r = K.cs a (.slice A n c) ∧ RB w B A n c (K.by_ a)
def ZR {α : Type} (K : RK α) (w : World) (B : Nat) (A : Option Addr) (n c : Nat) (L : List α) : Prop := ∃ R, ZS w B K.z A n c R ∧ R.length = L.length ∧ ∀ j (h : j < R.length) (h' : j < L.length), RR K w B R[j] L[j]
section
variable {α : Type} {K : RK α} {w w' : World} {B B0 B' : Nat} {A : Option Addr} {n c : Nat} {L : List α} {r : Array Value} {s : α}
theorem RR.belowAt (h : RR K w B r s) (hb : Below B0 w w') (hB : B ≤ B0) : RR K w' B r s := by
 obtain ⟨A, n, c, e, h1⟩ := h
 exact ⟨A, n, c, e, h1.belowAt hb hB⟩
theorem RR.more (h : RR K w B r s) (hB : B ≤ B') : RR K w B' r s := by
 obtain ⟨A, n, c, e, h1⟩ := h
 exact ⟨A, n, c, e, h1.more hB⟩
theorem ZR.belowAt (h : ZR K w B A n c L) (hb : Below B0 w w') (hB : B ≤ B0) : ZR K w' B A n c L := by
 obtain ⟨R, h1, h2, h3⟩ := h
 exact ⟨R, h1.belowAt hb hB, h2, fun j h h' => (h3 j h h').belowAt hb hB⟩
theorem ZR.more (h : ZR K w B A n c L) (hB : B ≤ B') : ZR K w B' A n c L := by
 obtain ⟨R, h1, h2, h3⟩ := h
 exact ⟨R, h1.more hB, h2, fun j h h' => (h3 j h h').more hB⟩
theorem ZR.grow (h : ZR K w w.heap.size A n c L) (hg : Grow w w') : ZR K w' w'.heap.size A n c L := (h.belowAt hg (Nat.le_refl _)).more hg.size
theorem ZR.len (h : ZR K w B A n c L) : n = L.length := by
 obtain ⟨R, h1, h2, _⟩ := h
 exact h1.len.trans h2
theorem ZR.cap (h : ZR K w B A n c L) : n ≤ c := by
 obtain ⟨R, h1, h2, _⟩ := h
 exact h1.cap
theorem ZR.max (h : ZR K w B A n c L) : c ≤ maxLen := by
 obtain ⟨R, h1, h2, _⟩ := h
 exact h1.max
theorem ZR.nil : ZR K w B none 0 0 [] := ⟨[], ZS.nil, rfl, fun j h => absurd h (by simp)⟩
theorem ZR.pos (h : ZR K w B A n c L) (hn : 0 < n) : ∃ b off, A = some ⟨b, off, none⟩ ∧ b < B := by
 obtain ⟨R, h1, h2, _⟩ := h
 obtain ⟨b, off, e, hb, _⟩ := h1.pos hn
 exact ⟨b, off, e, hb⟩
theorem ZR.at {b off k : Nat} (h : ZR K w B (some ⟨b, off, none⟩) n c L) (hk : k < L.length) : ∃ A1 n1 c1, b < B ∧
  (∀ i v, (K.cs L[k] (.slice A1 n1 c1))[i]? = some v → w.cell? ⟨b, off + k * K.z + i, none⟩ = some v) ∧ RB w B A1 n1 c1 (K.by_ L[k]) := by
 obtain ⟨R, h1, h2, h3⟩ := h
 have hkR : k < R.length := by rw [h2]; exact hk
 obtain ⟨A1, n1, c1, e, r1⟩ := h3 k hkR hk
 obtain ⟨b', off', e', hb, hc⟩ := h1.pos (by have := h1.len; omega)
 injection e' with e'
 injection e' with e1 e2
 subst e1; subst e2
 exact ⟨A1, n1, c1, hb, fun i v hv => hc k hkR i v (by rw [e]; exact hv), r1⟩
end
def eC (c : Nat) : Value := if c = 0 then .nilIface else .iface 81 (.int .i64 (c : Int))
theorem eC_zero : eC 0 = .nilIface := rfl
theorem eC_some {c : Nat} (h : c ≠ 0) : eC c = .iface 81 (.int .i64 (c : Int)) := if_neg h
theorem Blk.c11 {w : World} {g : Nat} {t : TypeId} {a0 a1 a2 a3 a4 a5 a6 a7 a8 a9 a10 : Value} (h : Blk w g t #[a0, a1, a2, a3, a4, a5, a6, a7, a8, a9, a10]) :
  w.cell? ⟨g, 0, none⟩ = some a0 ∧ w.cell? ⟨g, 1, none⟩ = some a1 ∧ w.cell? ⟨g, 2, none⟩ = some a2 ∧ w.cell? ⟨g, 3, none⟩ = some a3 ∧ w.cell? ⟨g, 4, none⟩ = some a4 ∧ w.cell? ⟨g, 5, none⟩ = some a5 ∧ w.cell? ⟨g, 6, none⟩ = some a6 ∧ w.cell? ⟨g, 7, none⟩ = some a7 ∧ w.cell? ⟨g, 8, none⟩ = some a8 ∧ w.cell? ⟨g, 9, none⟩ = some a9 ∧ w.cell? ⟨g, 10, none⟩ = some a10 :=
 ⟨h.at 0, h.at 1, h.at 2, h.at 3, h.at 4, h.at 5, h.at 6, h.at 7, h.at 8, h.at 9, h.at 10⟩
end Go.Proofs.YtfglppjilcaafaaGreatDoor
namespace Go.Proofs.YtfglppjilcaafaaGreatDoor
open Go.Lib (hid)
open Go.RowKit
theorem grown_trans {w a b : World} {row : Option Nat} (h : w.grownBy a row) (k : a.grownBy b row) : w.grownBy b row :=
 ⟨k.os.trans h.os, k.tape.trans h.tape, k.output.trans h.output, Nat.le_trans h.size k.size, fun i hi hne => (k.block i (Nat.lt_of_lt_of_le hi h.size) hne).trans (h.block i hi hne)⟩
theorem grown_set (w : World) (a : Addr) (v : Value) : w.grownBy (w.setCell a v) (some a.block) := ⟨rfl, rfl, rfl, by simp, fun k _ hk => Deep.blk_setCell_other _ _ _ _ (fun e => hk (by rw [e]))⟩
theorem grown_grow {w w' : World} (h : Grow w w') (row : Option Nat) : w.grownBy w' row := ⟨h.os, h.tape, h.output, h.size, fun k hk _ => h.block k hk⟩
theorem Blk.grownBy {w w' : World} {g : Nat} {t : TypeId} {cs : Array Value} {row : Option Nat} (h : Blk w g t cs) (hg : w.grownBy w' row) (hne : some g ≠ row) : Blk w' g t cs := by
 rw [Blk, hg.block g h.lt hne]; exact h
theorem below_by {B g : Nat} {w w' : World} (hg : w.grownBy w' (some g)) (hB : B ≤ w.heap.size) (h : B ≤ g) : Below B w w' := (Below.refl B w).grown hg hB (fun k hk => by obtain rfl := Option.some.inj hk; exact h)
theorem Blk.put1 {w : World} {g : Nat} {t : TypeId} {a : Value} (h : Blk w g t #[a]) (v : Value) : Blk (w.setCell ⟨g, 0, none⟩ v) g t #[v] := by
 have h0 : w.heap[g]? = some (.cells #[a] t (0, 0)) := h
 show (w.setCell ⟨g, 0, none⟩ v).heap[g]? = some (.cells #[v] t (0, 0))
 simp [World.setCell, Array.getElem?_modify, h0]
def Ln (w : World) (g e : Nat) : Prop := Blk w g 192 #[.int .u64 (e : Int)]
set_option maxHeartbeats 400000 in
theorem add_any (g e v a n : Nat) (w : World) (h : Ln w g e) (he : e ≤ 65537) (ha : a < 18446744073709551616) (h1 : ones a ≤ 1) (hn : n < 9223372036854775808) :
  Calls Tryz.prog 105 #[.pointer (some ⟨g, 0, none⟩), .int .u64 (v : Int), .int .u64 (a : Int), .int .u64 (n : Int)] w fun en w' =>
   en = .returned (.int .u64 (plc e v a : Nat)) ∧ Ln w' g (fin e v a n) ∧ w.grownBy w' (some g) := by
 unfold Ln at *
 have HN := hid (fun w => next_any e v a w he ha h1)
 have c0 : w.cell? ⟨g, 0, none⟩ = some (.int .u64 (e : Int)) := h.at 0
 have f0 := h.soft 0
 have HP := hid (h.put1 (.int .u64 (fin e v a n : Nat)))
 have HG := hid (grown_set w ⟨g, 0, none⟩ (.int .u64 (fin e v a n : Nat)))
 have q1 : (if (65537 : Int) < (nxt e v a : Nat) then (65537 : Int) else (nxt e v a : Nat)) = (plc e v a : Nat) := by unfold plc; split <;> omega
 have hp := plc_le e v a
 have q2 : IntKind.u64.wrap (((plc e v a : Nat) : Int) + (n : Int)) = ((plc e v a + n : Nat) : Int) := by rw [IntKind.wrap_u64]; omega
 have q3 : (if (65537 : Int) < ((plc e v a + n : Nat) : Int) then (65537 : Int) else ((plc e v a + n : Nat) : Int)) = (fin e v a n : Nat) := by unfold fin; split <;> omega
 generalize plc e v a + n = S at q2 q3
 generalize fin e v a n = F at HP HG q3 ⊢
 generalize plc e v a = R at q1 q2 ⊢
 generalize nxt e v a = N at HN q1
 clear h he ha h1 hn hp
 go_enter Tryz.func105, Tryz.ntmps105
 go_wp2_with fail
 refine (HN.out _).mono ?_
 rintro en w' ⟨rfl, rfl⟩
 go_wp2
 go_ret
 exact ⟨rfl, HP.out, HG.out⟩
end Go.Proofs.YtfglppjilcaafaaGreatDoor
namespace Go.Proofs.YtfglppjilcaafaaGreatDoor
open Go.Lib (hid)
open Go.RowKit
def ivl (k : IntKind) (f : Nat → Nat) (i : Nat) : Value := .int k (f i : Int)
def Row (w : World) (g n : Nat) (f : Nat → Nat) : Prop := w.rowIs g 28 n (ivl .u64 f)
theorem Row.grownBy {w w' : World} {g n : Nat} {f : Nat → Nat} {row : Option Nat} (h : Row w g n f) (hg : w.grownBy w' row) (hne : some g ≠ row) : Row w' g n f := by
 obtain ⟨cs, h1, h2, h3⟩ := h
 exact ⟨cs, Blk.grownBy h1 hg hne, h2, h3⟩
theorem Row.lt {w : World} {g n : Nat} {f : Nat → Nat} (h : Row w g n f) : g < w.heap.size := by
 obtain ⟨cs, h1, h2, h3⟩ := h
 exact Blk.lt h1
def PlcR (f : Nat → Nat) (n e : Nat) (p : Pl) (R E : Nat) : Prop :=
 (p.inn = -1 ∧ R = plc e 0 8 ∧ E = fin e 0 8 p.size) ∨ (∃ i : Nat, p.inn = (i : Int) ∧ i < n ∧ R = f i + p.off ∧ R < 18446744073709551616 ∧ E = e)
theorem ones8 : ones 8 ≤ 1 := by decide
set_option maxHeartbeats 1000000 in
theorem place_any (g e gs n : Nat) (f : Nat → Nat) (p : Pl) (S : Value) (R E : Nat) (w : World) (h : Ln w g e) (he : e ≤ 65537) (hr : Row w gs n f) (hP : PlcR f n e p R E) (hsz : p.size < 9223372036854775808) (hn : n ≤ 1000) :
  Calls Tryz.prog 143 #[.pointer (some ⟨g, 0, none⟩), .agg (plC p S), .slice (some ⟨gs, 0, none⟩) n n] w fun en w' =>
   en = .returned (.int .u64 (R : Nat)) ∧ Ln w' g E ∧ w.grownBy w' (some g) := by
 have HN := hid hn
 unfold plC
 rcases hP with ⟨hi, rfl, rfl⟩ | ⟨i, hi, hin, hR, hRl, rfl⟩
 ·rw [hi]
  have HA := hid (fun w' (hg : Grow w w') => add_any g e 0 8 p.size w' (Blk.grow h hg) he (by omega) ones8 hsz)
  generalize fin e 0 8 p.size = F at HA ⊢
  generalize plc e 0 8 = P at HA ⊢
  generalize p.size = sz at HA ⊢
  generalize p.off = of at HA ⊢
  clear h he hr hi hsz
  go_enter Tryz.func143, Tryz.ntmps143
  go_wp2_with fail
  generalize hW : World.alloc _ _ = W0
  obtain ⟨b1, hg0⟩ := blk1 hW
  clear hW
  obtain ⟨y0, y1, y2, y3⟩ := b1.c4
  have HG0 := hid hg0
  clear b1 hg0
  go_wp2_with fail
  clear y0 y1 y2 y3
  refine (HA.out _ HG0.out).mono ?_
  rintro en w1 ⟨rfl, hl, hg⟩
  have HL := hid hl
  have HG1 := hid (grown_trans (grown_grow HG0.out (some g)) hg)
  clear hl hg
  go_wp2
  go_ret
  exact ⟨rfl, HL.out, HG1.out⟩
 ·rw [hi]
  have c0 : w.cell? ⟨gs, i, none⟩ = some (.int .u64 (f i : Int)) := World.rowIs.cell hr hin
  have hb := hr.lt
  have C0 := hid c0
  have HIn := hid hin
  have HB := hid hb
  have HLn := hid h
  have e0 : ((i : Int) == -1) = false := by simp
  have z1 : IntKind.u64.wrap ((f i : Int) + (p.off : Int)) = (R : Int) := by rw [IntKind.wrap_u64]; omega
  generalize f i = x at C0 z1
  generalize p.size = sz
  generalize p.off = of at z1 ⊢
  clear h he hr hi hsz c0 hb hR hRl hn hin
  go_enter Tryz.func143, Tryz.ntmps143
  go_wp2_with fail
  generalize hW : World.alloc _ _ = W0
  obtain ⟨b1, hg0⟩ := blk1 hW
  clear hW
  obtain ⟨y0, y1, y2, y3⟩ := b1.c4
  have HG0 := hid hg0
  have c0 : W0.cell? ⟨gs, i, none⟩ = some (.int .u64 (x : Int)) := (Below.cell hg0 HB.out).trans C0.out
  clear b1 hg0
  have hin := HIn.out
  go_quiet (fail)
  clear c0 y0 y1 y2 y3 hin
  go_wp2
  go_ret
  exact ⟨rfl, HLn.out.grow (HG0.out.trans (Grow.of_drewN _ _)), grown_grow (HG0.out.trans (Grow.of_drewN _ _)) _⟩
end Go.Proofs.YtfglppjilcaafaaGreatDoor
namespace Go.Proofs.YtfglppjilcaafaaGreatDoor
open Go.Lib (hid)
open Go.RowKit
def upTo (f : Nat → Nat) (k j : Nat) : Nat := if j < k then f j else 0
theorem upTo_set (kd : IntKind) (f : Nat → Nat) (k j : Nat) : (if j = k then Value.int kd (f k : Int) else ivl kd (upTo f k) j) = ivl kd (upTo f (k + 1)) j := by
 unfold ivl upTo
 by_cases e : j = k
 ·subst e
  rw [if_pos rfl, if_pos (by omega)]
 ·rw [if_neg e]
  by_cases h : j < k
  ·rw [if_pos h, if_pos (by omega)]
  ·rw [if_neg h, if_neg (by omega)]
theorem upTo_all {w : World} {g n : Nat} {f : Nat → Nat} (h : Row w g n (upTo f n)) : Row w g n f :=
 World.rowIs.congr h fun i hi => by unfold ivl upTo; rw [if_pos hi]
theorem rows_new (w : World) (n : Nat) (f : Nat → Nat) : Row (w.alloc (.cells (madeCells #[.int .u64 0] n) 28)) w.heap.size n (upTo f 0) :=
 (World.rowIs_made w (.int .u64 0) n 28).congr fun i _ => by simp [ivl, upTo]
theorem Row.put {w : World} {g n : Nat} {f : Nat → Nat} {k : Nat} (h : Row w g n (upTo f k)) : Row (w.setCell ⟨g, k, none⟩ (.int .u64 (f k : Int))) g n (upTo f (k + 1)) :=
 (World.rowIs.set h k _).congr fun j _ => upTo_set .u64 f k j
theorem grown_own {w w1 : World} {row : Option Nat} (h : w.grownBy w1 row) {g : Nat} (hg : w.heap.size ≤ g) (i : Nat) (v : Value) : w.grownBy (w1.setCell ⟨g, i, none⟩ v) row :=
 ⟨h.os, h.tape, h.output, by simpa using h.size, fun k hk hne => (Deep.blk_setCell_other _ _ _ _ (show k ≠ g by omega)).trans (h.block k hk hne)⟩
theorem Md.plc3 (m : Md) (n k : Nat) (h : (m.se k).pl.inn = -1 ∨ (∃ i : Nat, (m.se k).pl.inn = (i : Int) ∧ i < n ∧ m.P2 i + (m.se k).pl.off < 18446744073709551616)) : PlcR m.P2 n (m.eS k) (m.se k).pl (m.P3 k) (m.eS (k + 1)) := by
 rcases h with h | ⟨i, h, hi, hl⟩
 ·refine .inl ⟨h, ?_, ?_⟩
  ·unfold Md.P3; rw [if_pos h]
  ·rw [Md.eS, if_pos h]
 ·have hne : ¬ ((m.se k).pl.inn = -1) := by omega
  have e : m.P3 k = m.P2 i + (m.se k).pl.off := by unfold Md.P3; rw [if_neg hne, h]; rfl
  exact .inr ⟨i, h, hi, e, by rw [e]; exact hl, by rw [Md.eS, if_neg hne]⟩
set_option maxHeartbeats 2000000 in
theorem secs_any (m : Md) (g gs n1 B : Nat) (A2 : Option Addr) (n2 c2 : Nat) (w : World) (h : Ln w g (m.eS 0)) (hle : ∀ k, m.eS k ≤ 65537) (hz : ZR seK w B A2 n2 c2 m.secs) (hB : B ≤ g) (hr : Row w gs n1 m.P2) (hne : gs ≠ g)
  (hpl : ∀ k, k < n2 → (m.se k).pl.inn = -1 ∨ (∃ i : Nat, (m.se k).pl.inn = (i : Int) ∧ i < n1 ∧ m.P2 i + (m.se k).pl.off < 18446744073709551616)) (hsz : ∀ k, k < n2 → (m.se k).pl.size < 9223372036854775808) (hn1 : n1 ≤ 1000) (hn2 : n2 ≤ 1000) :
  Calls Tryz.prog 108 #[.pointer (some ⟨g, 0, none⟩), .slice A2 n2 c2, .slice (some ⟨gs, 0, none⟩) n1 n1] w fun en w' =>
   ∃ ga, en = .returned (.slice (some ⟨ga, 0, none⟩) n2 n2) ∧ w.heap.size ≤ ga ∧ Row w' ga n2 m.P3 ∧ Ln w' g (m.eS n2) ∧ w.grownBy w' (some g) := by
 have hmk : ∀ W : World, (Instr.makeSlice 36 (.int .i64 (n2 : Int)) (.int .i64 (n2 : Int))).run Tryz.prog W = .ok (.slice (some ⟨W.heap.size, 0, none⟩) n2 n2) (W.alloc (.cells (madeCells #[.int .u64 0] n2) 28)) :=
  fun W => run_make_row' 36 28 (.int .u64 0) 8 Tryz.underlying36 (by kernel_rfl) rfl _ _ n2 (by omega) (by omega) W
 have HPl := hid (fun k hk => m.plc3 n1 k (hpl k hk))
 have HSz := hid hsz
 have HLe := hid hle
 have HR := hid (rows_new w n2 m.P3)
 have HG := hid (grown_grow (Grow.of_alloc w (.cells (madeCells #[.int .u64 0] n2) 28)) (some g))
 have HL0 : Hid (Ln (w.alloc (.cells (madeCells #[.int .u64 0] n2) 28)) g (m.eS 0)) := hid (Blk.alloc h _)
 have hgl : g < w.heap.size := Blk.lt h
 have HS := hid hr
 have HZ := hid hz
 have HLn := hid hz.len
 have hzc := hz.cap
 have hzm := hz.max
 unfold maxLen at hzm
 have HB := hid hB
 have HN1 := hid hn1
 have HNe := hid (show some gs ≠ some g from fun e => hne (Option.some.inj e))
 have HGl := hid hgl
 clear h hle hz hB hr hne hpl hsz hn1 hgl
 go_enter Tryz.func108, Tryz.ntmps108
 go_wp2_with fail
 clear hmk
 obtain ⟨ga, hga⟩ : ∃ ga, ga = w.heap.size := ⟨_, rfl⟩
 rw [← hga] at HR ⊢
 have HGa := hid hga
 generalize World.alloc _ _ = W0 at HR HG HL0 ⊢
 clear hga
 go_loopw [15] (fun i wr => ∃ k : Nat, k ≤ n2 ∧ i = .int .i64 k ∧ Row wr ga n2 (upTo m.P3 k) ∧ Ln wr g (m.eS k) ∧ w.grownBy wr (some g)) (fun i _ => n2 - (intOf i).toNat)
 case atStart => exact ⟨0, by omega, rfl, HR.out, HL0.out, HG.out⟩
 case round =>
  obtain ⟨k, hk, rfl, hrow, hln, hgr⟩ := hrel
  have HRow := hid hrow
  have HLi := hid hln
  have HGr := hid hgr
  have hgaw := hid (World.rowIs.lt hrow)
  clear hrow hln hgr HR HG HL0
  by_cases hlt : k < n2
  ·have hkl : k < m.secs.length := by rw [← HLn.out]; exact hlt
   obtain ⟨b, off, rfl, hb⟩ := HZ.out.pos (by omega)
   obtain ⟨Ak, nk, ck, -, hcell, gk⟩ := HZ.out.at hkl
   have hse : m.secs[k] = m.se k := by unfold Md.se; rw [List.getD_eq_getElem?_getD, List.getElem?_eq_getElem hkl]; rfl
   rw [hse] at hcell
   have hbel : Below B w wr := below_by HGr.out (by have := HB.out; have := HGl.out; omega) HB.out
   have hcell' : ∀ i v, (seC (m.se k) (.slice Ak nk ck))[i]? = some v → wr.cell? ⟨b, off + k * 13 + i, none⟩ = some v := fun i v hv => (hbel.cell hb).trans (hcell i v hv)
   have HA := hid (fun w' (hg : Grow wr w') => place_any g (m.eS k) gs n1 m.P2 (m.se k).pl (.slice Ak nk ck) (m.P3 k) (m.eS (k + 1)) w' (Blk.grow HLi.out hg) (HLe.out k) ((HS.out.grownBy HGr.out HNe.out).grownBy (grown_grow hg (some g)) HNe.out) (HPl.out k hlt) (HSz.out k hlt) HN1.out)
   unfold plC at HA
   unfold seC at hcell'
   clear hse hcell gk hbel hkl
   generalize m.se k = s at hcell' HA
   have t0 : wr.cell? ⟨b, off + k * 13, none⟩ = _ := hcell' 0 _ rfl
   have t1 := hcell' 1 _ rfl
   have t2 := hcell' 2 _ rfl
   have t3 := hcell' 3 _ rfl
   have t4 := hcell' 4 _ rfl
   have t5 := hcell' 5 _ rfl
   have t6 := hcell' 6 _ rfl
   have t7 := hcell' 7 _ rfl
   have t8 := hcell' 8 _ rfl
   have t9 := hcell' 9 _ rfl
   have t10 := hcell' 10 _ rfl
   have t11 := hcell' 11 _ rfl
   have t12 := hcell' 12 _ rfl
   clear hcell'
   go_wp2_with fail
   generalize hW : World.alloc _ _ = W1
   obtain ⟨b5, hg5⟩ := blk1 hW
   clear hW t0 t1 t2 t3 t4 t5 t6 t7 t8 t9 t10 t11 t12
   have HG5 := hid hg5
   have r9 := b5.at 9
   have r10 := b5.at 10
   have r11 := b5.at 11
   have r12 := b5.at 12
   clear b5 hg5
   go_wp2_with fail
   clear r9 r10 r11 r12
   refine (HA.out _ HG5.out).mono ?_
   rintro en w2 ⟨rfl, hl2, hg2⟩
   have HGr2 := hid (grown_trans HGr.out (grown_trans (grown_grow HG5.out (some g)) hg2))
   have hne2 : some ga ≠ some g := fun e => by have := Option.some.inj e; have h1 := HGl.out; have h2 := HGa.out; omega
   have HRow2 := hid (HRow.out.grownBy (grown_trans (grown_grow HG5.out (some g)) hg2) hne2)
   have HL2 := hid hl2
   have hc2 := World.rowIs.cell HRow2.out hlt
   have hf2 := World.rowIs.frozen HRow2.out k
   have hne3 := hid hne2
   clear hl2 hg2 hne2 HA HGr HG5 HRow HLi
   have HRow3 := hid HRow2.out.put
   have HGr3 := hid (grown_own HGr2.out (Nat.le_of_eq HGa.out.symm) k (.int .u64 (m.P3 k : Nat)))
   have HL3 : Hid (Ln (w2.setCell ⟨ga, k, none⟩ (.int .u64 (m.P3 k : Nat))) g (m.eS (k + 1))) := hid (Blk.cellset HL2.out (fun e => hne3.out (by simp [e])) _)
   generalize m.P3 k = R at HRow3 HGr3 HL3 ⊢
   go_wp2
   go_roundw
   case rel => exact ⟨k + 1, by omega, by go_num, HRow3.out, HL3.out, HGr3.out⟩
   case measure => simp [intOf]; omega
  ·have hkn : k = n2 := by omega
   subst hkn
   have HF := hid (upTo_all HRow.out)
   go_wp2
   go_ret
   exact ⟨ga, rfl, Nat.le_of_eq HGa.out.symm, HF.out, HLi.out, HGr.out⟩
end Go.Proofs.YtfglppjilcaafaaGreatDoor
