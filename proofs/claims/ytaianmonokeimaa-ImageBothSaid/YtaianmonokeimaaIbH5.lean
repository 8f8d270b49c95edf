/-
  Several texts in one: A plan, as plain data; The contracts of head; append of one struct in a list of operations; a store beside structs of the call's own; Models in memory; The contracts of (line); The contract of (line).
-/
import Derived.Test.YtaianmonokeimaaIbH4
import Derived.Test.YtaianmonokeimaaIbH2
import Derived.Test.YtaianmonokeimaaIbH1
import Derived.Laws.Bits64b
import Derived.Deep.OwnRows
import Derived.WalkKit
import Derived.BigQuiet
import Derived.Deep.QuietTactic
import Derived.Lib.Hide
namespace Go.Proofs.Ytaianmonokeimaa
open Go.Lib (hid)
def nxt (e v a : Nat) : Nat := e + (v + (18446744073709551616 - e)) % (max a 1)
def plc (e v a : Nat) : Nat := min (nxt e v a) 65537
def fin (e v a n : Nat) : Nat := min (plc e v a + n) 65537
theorem two_pow64 : (2 : Nat) ^ 64 = 18446744073709551616 := by decide
theorem pow_of {a : Nat} (ha : a < 18446744073709551616) (h : ones a ≤ 1) : ∃ k, k < 64 ∧ max a 1 = 2 ^ k := by
 rcases (ones_one a ha).1 h with rfl | ⟨k, rfl⟩
 ·exact ⟨0, by omega, by decide⟩
 ·refine ⟨k, ?_, ?_⟩
  ·rcases Nat.lt_or_ge k 64 with h1 | h1
   ·exact h1
   ·have := Nat.pow_le_pow_right (show 0 < 2 by decide) h1
    rw [two_pow64] at this
    omega
  ·have := Nat.two_pow_pos k
   omega
theorem pow_dvd {k : Nat} (h : k < 64) : 2 ^ k ∣ 18446744073709551616 := by
 rw [← two_pow64]
 exact Nat.pow_dvd_pow 2 (by omega)
theorem nxt_ge (e v a : Nat) : e ≤ nxt e v a := Nat.le_add_right _ _
theorem nxt_lt (e v a : Nat) : nxt e v a < e + max a 1 := by
 unfold nxt
 have := Nat.mod_lt (v + (18446744073709551616 - e)) (show max a 1 > 0 by omega)
 omega
theorem nxt_one (e v a : Nat) (h : a ≤ 1) : nxt e v a = e := by
 unfold nxt
 rw [show max a 1 = 1 by omega, Nat.mod_one]
 rfl
theorem plc_le (e v a : Nat) : plc e v a ≤ 65537 := Nat.min_le_right _ _
theorem fin_le (e v a n : Nat) : fin e v a n ≤ 65537 := Nat.min_le_right _ _
theorem fin_ge {e v a n : Nat} (he : e ≤ 65537) : e ≤ fin e v a n := by
 have := nxt_ge e v a
 unfold fin plc
 omega
theorem fin_in {e v a n : Nat} (h : fin e v a n ≤ 65536) : plc e v a = nxt e v a ∧ fin e v a n = nxt e v a + n ∧ plc e v a + n = fin e v a n ∧ e ≤ plc e v a := by
 have := nxt_ge e v a
 unfold fin plc at *
 omega
namespace Md
variable (m : Md)
def sg (k : Nat) : Sg := m.segs.getD k sg0
def se (k : Nat) : Se := m.secs.getD k se0
def e1 : Nat := hSize m.wide + byWide m.wide 32 56 * m.segs.length
def eL : Nat → Nat
 | 0 => m.e1
 | k + 1 => if (m.sg k).typ = 1 then fin (eL k) (m.sg k).vaddr (m.sg k).align (m.sg k).pl.size else eL k
def P1 (k : Nat) : Nat := if (m.sg k).typ = 1 then plc (m.eL k) (m.sg k).vaddr (m.sg k).align else 0
def eO : Nat → Nat
 | 0 => m.eL m.segs.length
 | k + 1 => if (m.sg k).typ = 1 then eO k else if (m.sg k).pl.inn = -1 then fin (eO k) 0 8 (m.sg k).pl.size else eO k
def P2 (k : Nat) : Nat := if (m.sg k).typ = 1 then m.P1 k else if (m.sg k).pl.inn = -1 then plc (m.eO k) 0 8 else m.P1 (m.sg k).pl.inn.toNat + (m.sg k).pl.off
def eS : Nat → Nat
 | 0 => m.eO m.segs.length
 | k + 1 => if (m.se k).pl.inn = -1 then fin (eS k) 0 8 (m.se k).pl.size else eS k
def P3 (k : Nat) : Nat := if (m.se k).pl.inn = -1 then plc (m.eS k) 0 8 else m.P2 (m.se k).pl.inn.toNat + (m.se k).pl.off
def phoff : Nat := if 0 < m.segs.length then hSize m.wide else 0
def shoff : Nat := if 0 < m.secs.length then plc (m.eS m.secs.length) 0 8 else 0
def eT : Nat := if 0 < m.secs.length then fin (m.eS m.secs.length) 0 8 (byWide m.wide 40 64 * (m.secs.length + 1)) else m.eS m.secs.length
theorem e1_le (h : m.segs.length ≤ 16) : m.e1 ≤ 65536 := by
 unfold e1 hSize byWide
 split <;> omega
theorem eL_le (h : m.segs.length ≤ 16) : ∀ k, m.eL k ≤ 65537
 | 0 => by rw [eL]; have := m.e1_le h; omega
 | k + 1 => by
  rw [eL]
  split
  ·exact fin_le _ _ _ _
  ·exact eL_le h k
theorem eO_le (h : m.segs.length ≤ 16) : ∀ k, m.eO k ≤ 65537
 | 0 => m.eL_le h _
 | k + 1 => by
  rw [eO]
  split
  ·exact eO_le h k
  split
  ·exact fin_le _ _ _ _
  ·exact eO_le h k
theorem eS_le (h : m.segs.length ≤ 16) : ∀ k, m.eS k ≤ 65537
 | 0 => m.eO_le h _
 | k + 1 => by
  rw [eS]
  split
  ·exact fin_le _ _ _ _
  ·exact eS_le h k
theorem P1_le (k : Nat) : m.P1 k ≤ 65537 := by
 unfold P1
 split
 ·exact plc_le _ _ _
 ·omega
end Md
end Go.Proofs.Ytaianmonokeimaa
namespace Go.Proofs.Ytaianmonokeimaa
open Go.Lib (hid)
open Go.RowKit
theorem plByClass_any (wide big : Bool) (x y : Nat) (w : World) : Calls Try.prog 57 #[.agg #[.bool wide, .bool big], .int .i64 x, .int .i64 y] w fun e w' => e = .returned (.int .i64 (byWide wide x y : Nat)) ∧ Grow w w' := by
 cases wide
 ·go_enter Try.func57, Try.ntmps57
  go_wp2
  go_ret
  exact ⟨rfl, Grow.of_alloc _ _⟩
 ·go_enter Try.func57, Try.ntmps57
  go_wp2
  go_ret
  exact ⟨rfl, Grow.of_alloc _ _⟩
theorem plHSize_any (wide big : Bool) (w : World) : Calls Try.prog 31 #[.agg #[.bool wide, .bool big]] w fun e w' => e = .returned (.int .i64 (hSize wide : Nat)) ∧ Grow w w' := by
 go_enter Try.func31, Try.ntmps31
 go_wp2_with fail
 refine (plByClass_any wide big 52 64 _).mono ?_
 rintro e w1 ⟨rfl, hg⟩
 have HG := hid ((Grow.of_alloc _ _).trans hg)
 clear hg
 go_wp2
 go_ret
 exact ⟨rfl, HG.out⟩
theorem plPSize_any (wide big : Bool) (w : World) : Calls Try.prog 26 #[.agg #[.bool wide, .bool big]] w fun e w' => e = .returned (.int .i64 (byWide wide 32 56 : Nat)) ∧ Grow w w' := by
 cases wide
 ·go_enter Try.func26, Try.ntmps26
  go_wp2
  go_ret
  exact ⟨rfl, Grow.of_alloc _ _⟩
 ·go_enter Try.func26, Try.ntmps26
  go_wp2
  go_ret
  exact ⟨rfl, Grow.of_alloc _ _⟩
theorem plSSize_any (wide big : Bool) (w : World) : Calls Try.prog 29 #[.agg #[.bool wide, .bool big]] w fun e w' => e = .returned (.int .i64 (byWide wide 40 64 : Nat)) ∧ Grow w w' := by
 cases wide
 ·go_enter Try.func29, Try.ntmps29
  go_wp2
  go_ret
  exact ⟨rfl, Grow.of_alloc _ _⟩
 ·go_enter Try.func29, Try.ntmps29
  go_wp2
  go_ret
  exact ⟨rfl, Grow.of_alloc _ _⟩
theorem count_any (n s : Nat) (w : World) (hn : n ≤ 1000) (hs : s ≤ 1000) : Calls Try.prog 44 #[.int .i64 (n : Int), .int .i64 (s : Int)] w fun e w' => e = .returned (.int .u64 ((s * n : Nat) : Int)) ∧ w = w' := by
 have h1 : IntKind.u64.wrap (n : Int) = (n : Int) := by rw [IntKind.wrap_u64]; omega
 have h2 : IntKind.u64.wrap (s : Int) = (s : Int) := by rw [IntKind.wrap_u64]; omega
 have hb : s * n ≤ 1000 * 1000 := Nat.mul_le_mul hs hn
 have h3 : IntKind.u64.wrap ((n : Int) * (s : Int)) = ((s * n : Nat) : Int) := by
  have : (n : Int) * (s : Int) = ((s * n : Nat) : Int) := by rw [Nat.mul_comm]; simp
  rw [this, IntKind.wrap_u64]
  omega
 generalize s * n = r at h3 ⊢
 clear hb hn hs
 go_enter Try.func44, Try.ntmps44
 go_wp2
 go_ret
 exact ⟨rfl, rfl⟩
theorem next_any (e v a : Nat) (w : World) (he : e ≤ 65537) (ha : a < 18446744073709551616) (h1 : ones a ≤ 1) :
  Calls Try.prog 70 #[.int .u64 (e : Int), .int .u64 (v : Int), .int .u64 (a : Int)] w fun en w' => en = .returned (.int .u64 (nxt e v a : Nat)) ∧ w = w' := by
 obtain ⟨k, hk, hM⟩ := pow_of ha h1
 have hlt := nxt_lt e v a
 obtain ⟨X, hX⟩ : ∃ X, (v + (18446744073709551616 - e)) % 18446744073709551616 = X := ⟨_, rfl⟩
 obtain ⟨M, hMM⟩ : ∃ M, max a 1 = M := ⟨_, rfl⟩
 have hXl : X < 18446744073709551616 := by omega
 have hM1 : 1 ≤ M := by omega
 have hM2 : M < 18446744073709551616 := by omega
 have q1 : IntKind.u64.wrap ((v : Int) - (e : Int)) = (X : Int) := by rw [IntKind.wrap_u64]; omega
 have q2 : IntKind.u64.wrap ((M : Int) - 1) = ((M - 1 : Nat) : Int) := by rw [IntKind.wrap_u64]; omega
 have q3 : bits BinOp.and IntKind.u64 (X : Int) ((M - 1 : Nat) : Int) = ((X &&& (M - 1) : Nat) : Int) := bits_and_u64_nat X (M - 1) hXl (by omega)
 have q4 : X &&& (M - 1) = X % M := by
  rw [← hMM, hM]
  exact Nat.and_two_pow_sub_one_eq_mod _ _
 have q5 : X % M = nxt e v a - e := by
  unfold nxt
  rw [hMM, ← hX, ← hMM, hM, Nat.mod_mod_of_dvd _ (pow_dvd hk)]
  omega
 have hM3 : M ≤ 9223372036854775808 := by
  rw [← hMM, hM]
  exact Nat.le_trans (Nat.pow_le_pow_right (show 0 < 2 by decide) (show k ≤ 63 by omega)) (by decide)
 have hge := nxt_ge e v a
 rw [q4, q5] at q3
 rw [hMM] at hlt
 have q6 : IntKind.u64.wrap ((e : Int) + ((nxt e v a - e : Nat) : Int)) = (nxt e v a : Nat) := by rw [IntKind.wrap_u64]; omega
 generalize nxt e v a - e = D at q3 q6
 generalize nxt e v a = R at q6 ⊢
 have q7 : (if (a : Int) < 1 then (1 : Int) else (a : Int)) = (M : Int) := by split <;> omega
 clear hX hM hMM q4 q5 hge hlt hk he ha h1
 generalize M - 1 = M' at q2 q3
 go_enter Try.func70, Try.ntmps70
 go_wp2
 go_ret
 exact ⟨rfl, rfl⟩
end Go.Proofs.Ytaianmonokeimaa
namespace Go.Proofs.Ytaianmonokeimaa
open Go.Lib (hid)
open Go.RowKit
theorem wpList_appendZ {P : Program} (w : World) {ops : Array Oper} {rest : List Oper} {o : Oper} {a : Act} {Q : Exit → Act → World → Prop} (hgd : o.guard = none) (s x : Operand) (t : TypeId)
  (ho : o.op = .call { callee := .builtin .append, args := #[s, x], argTypes := #[t, t] })
  (base : Nat) (e : TypeId) (zv : Value) (z bytes : Nat) (ht : P.underlying t = some (.slice e)) (hinfo : (P.info? e).map (fun i => (i.zero, i.size, i.bytes)) = some (some zv, z, bytes)) (hzs : zv.cells.size = z) (hz0 : 0 < z)
  (A : Option Addr) (n c : Nat) (l : List (Array Value)) (hs : a.eval s = .slice A n c) (hown : ZO w base e z A n c l)
  (g : Nat) (t' : TypeId) (r : Array Value) (hx : a.eval x = .slice (some ⟨g, 0, none⟩) 1 1) (hr : Blk w g t' r) (hrz : r.size = z) (h1 : r.all (·.oneCell') = true)
  (h63 : n + 1 ≤ maxLen) (hsz : (n + 1) * bytes ≤ 140737488355328) (hbase : base ≤ w.heap.size)
  (h : ∀ A2 c2 w', ZO w' base e z A2 (n + 1) c2 (l ++ [r]) → w.grownBy w' (own A) → (own A2 = own A ∨ own A2 = some w.heap.size) → wpList P ops Q rest (a.put o.dst (.slice A2 (n + 1) c2)) w') : wpList P ops Q (o :: rest) a w := by
 refine wpList_plain hgd fun K hK => ?_
 refine wp_appendZ w s x t ho base e zv z bytes ht hinfo hzs hz0 A n c l hs hown g t' r hx hr hrz h1 h63 hsz hbase fun A2 c2 w' h2 h3 h4 => ?_
 exact hK _ _ (h A2 c2 w' h2 h3 h4)
theorem ZO.other {w : World} {base : Nat} {e : TypeId} {z : Nat} {A : Option Addr} {n c : Nat} {l : List (Array Value)} (h : ZO w base e z A n c l) {g : Nat} (hg : own A ≠ some g) (cs : Array Value) : ZO (w.setRow g cs) base e z A n c l := by
 refine ⟨⟨h.1.1, ?_⟩, h.2⟩
 rcases h.1.2 with h0 | ⟨g', cap, cur, hv, hb, hh, r⟩
 ·exact .inl h0
 ·refine .inr ⟨g', cap, cur, hv, hb, ?_, r⟩
  injection hv with e1 _ _
  subst e1
  have hne : g' ≠ g := fun e => hg (by rw [e]; rfl)
  rw [setRow_other w g g' cs (by omega)]
  exact hh
end Go.Proofs.Ytaianmonokeimaa
namespace Go.Proofs.Ytaianmonokeimaa
open Go.Lib (hid)
open Go.RowKit
structure RK (α : Type) where
 z : Nat
 cs : α → Value → Array Value
 by_ : α → List UInt8
def sgC (g : Sg) (s : Value) : Array Value := #[.int .u32 (g.typ : Nat), .int .u32 (g.flags : Nat), .int .u64 (g.vaddr : Nat), .int .u64 (g.paddr : Nat), .int .u64 (g.memsz : Nat), .int .u64 (g.align : Nat), .int .i64 g.pl.inn, .int .u64 (g.pl.off : Nat), .int .u64 (g.pl.size : Nat), s]
def seC (g : Se) (s : Value) : Array Value := #[.int .u32 (g.name : Nat), .int .u32 (g.typ : Nat), .int .u64 (g.flags : Nat), .int .u64 (g.addr : Nat), .int .u64 (g.size : Nat), .int .u32 (g.link : Nat), .int .u32 (g.info : Nat), .int .u64 (g.align : Nat), .int .u64 (g.entsize : Nat), .int .i64 g.pl.inn, .int .u64 (g.pl.off : Nat), .int .u64 (g.pl.size : Nat), s]
def plC (p : Pl) (s : Value) : Array Value := #[.int .i64 p.inn, .int .u64 (p.off : Nat), .int .u64 (p.size : Nat), s]
def mdC (m : Md) (s t : Value) : Array Value := #[.bool m.wide, .bool m.big, .int .u8 (m.osabi : Nat), .int .u8 (m.abi : Nat), .int .u16 (m.typ : Nat), .int .u16 (m.mach : Nat), .int .u32 (m.flags : Nat), .int .u64 (m.entry : Nat), s, t, .int .i64 m.str]
def sgK : RK Sg := ⟨10, sgC, fun g => g.pl.own⟩
def seK : RK Se := ⟨13, seC, fun g => g.pl.own⟩
def RR {α : Type} (K : RK α) (w : World) (B : Nat) (r : Array Value) (a : α) : Prop := ∃ A n c, r = K.cs a (.slice A n c) ∧ RB w B A n c (K.by_ a)
def ZR {α : Type} (K : RK α) (w : World) (B : Nat) (A : Option Addr) (n c : Nat) (L : List α) : Prop := ∃ R, ZS w B K.z A n c R ∧ R.length = L.length ∧ ∀ j (h : j < R.length) (h' : j < L.length), RR K w B R[j] L[j]
section
variable {α : Type} {K : RK α} {w w' : World} {B B0 B' : Nat} {A : Option Addr} {n c : Nat} {L : List α} {r : Array Value} {s : α}
theorem RR.belowAt (h : RR K w B r s) (hb : Below B0 w w') (hB : B ≤ B0) : RR K w' B r s := by
 obtain ⟨A, n, c, e, h1⟩ := h
 exact ⟨A, n, c, e, h1.belowAt hb hB⟩
theorem RR.more (h : RR K w B r s) (hB : B ≤ B') : RR K w B' r s := by
 obtain ⟨A, n, c, e, h1⟩ := h
 exact ⟨A, n, c, e, h1.more hB⟩
theorem ZR.belowAt (h : ZR K w B A n c L) (hb : Below B0 w w') (hB : B ≤ B0) : ZR K w' B A n c L := by
 obtain ⟨R, h1, h2, h3⟩ := h
 exact ⟨R, h1.belowAt hb hB, h2, fun j h h' => (h3 j h h').belowAt hb hB⟩
theorem ZR.more (h : ZR K w B A n c L) (hB : B ≤ B') : ZR K w B' A n c L := by
 obtain ⟨R, h1, h2, h3⟩ := h
 exact ⟨R, h1.more hB, h2, fun j h h' => (h3 j h h').more hB⟩
theorem ZR.grow (h : ZR K w w.heap.size A n c L) (hg : Grow w w') : ZR K w' w'.heap.size A n c L := (h.belowAt hg (Nat.le_refl _)).more hg.size
theorem ZR.len (h : ZR K w B A n c L) : n = L.length := by
 obtain ⟨R, h1, h2, _⟩ := h
 exact h1.len.trans h2
theorem ZR.cap (h : ZR K w B A n c L) : n ≤ c := by
 obtain ⟨R, h1, h2, _⟩ := h
 exact h1.cap
theorem ZR.max (h : ZR K w B A n c L) : c ≤ maxLen := by
 obtain ⟨R, h1, h2, _⟩ := h
 exact h1.max
theorem ZR.nil : ZR K w B none 0 0 [] := ⟨[], ZS.nil, rfl, fun j h => absurd h (by simp)⟩
theorem ZR.pos (h : ZR K w B A n c L) (hn : 0 < n) : ∃ b off, A = some ⟨b, off, none⟩ ∧ b < B := by
 obtain ⟨R, h1, h2, _⟩ := h
 obtain ⟨b, off, e, hb, _⟩ := h1.pos hn
 exact ⟨b, off, e, hb⟩
theorem ZR.at {b off k : Nat} (h : ZR K w B (some ⟨b, off, none⟩) n c L) (hk : k < L.length) : ∃ A1 n1 c1, b < B ∧
  (∀ i v, (K.cs L[k] (.slice A1 n1 c1))[i]? = some v → w.cell? ⟨b, off + k * K.z + i, none⟩ = some v) ∧ RB w B A1 n1 c1 (K.by_ L[k]) := by
 obtain ⟨R, h1, h2, h3⟩ := h
 have hkR : k < R.length := by rw [h2]; exact hk
 obtain ⟨A1, n1, c1, e, r1⟩ := h3 k hkR hk
 obtain ⟨b', off', e', hb, hc⟩ := h1.pos (by have := h1.len; omega)
 injection e' with e'
 injection e' with e1 e2
 subst e1; subst e2
 exact ⟨A1, n1, c1, hb, fun i v hv => hc k hkR i v (by rw [e]; exact hv), r1⟩
end
def eC (c : Nat) : Value := if c = 0 then .nilIface else .iface 67 (.int .i64 (c : Int))
theorem eC_zero : eC 0 = .nilIface := rfl
theorem eC_some {c : Nat} (h : c ≠ 0) : eC c = .iface 67 (.int .i64 (c : Int)) := if_neg h
theorem Blk.c11 {w : World} {g : Nat} {t : TypeId} {a0 a1 a2 a3 a4 a5 a6 a7 a8 a9 a10 : Value} (h : Blk w g t #[a0, a1, a2, a3, a4, a5, a6, a7, a8, a9, a10]) :
  w.cell? ⟨g, 0, none⟩ = some a0 ∧ w.cell? ⟨g, 1, none⟩ = some a1 ∧ w.cell? ⟨g, 2, none⟩ = some a2 ∧ w.cell? ⟨g, 3, none⟩ = some a3 ∧ w.cell? ⟨g, 4, none⟩ = some a4 ∧ w.cell? ⟨g, 5, none⟩ = some a5 ∧ w.cell? ⟨g, 6, none⟩ = some a6 ∧ w.cell? ⟨g, 7, none⟩ = some a7 ∧ w.cell? ⟨g, 8, none⟩ = some a8 ∧ w.cell? ⟨g, 9, none⟩ = some a9 ∧ w.cell? ⟨g, 10, none⟩ = some a10 :=
 ⟨h.at 0, h.at 1, h.at 2, h.at 3, h.at 4, h.at 5, h.at 6, h.at 7, h.at 8, h.at 9, h.at 10⟩
end Go.Proofs.Ytaianmonokeimaa
namespace Go.Proofs.Ytaianmonokeimaa
open Go.Lib (hid)
open Go.RowKit
theorem grown_trans {w a b : World} {row : Option Nat} (h : w.grownBy a row) (k : a.grownBy b row) : w.grownBy b row :=
 ⟨k.os.trans h.os, k.tape.trans h.tape, k.output.trans h.output, Nat.le_trans h.size k.size, fun i hi hne => (k.block i (Nat.lt_of_lt_of_le hi h.size) hne).trans (h.block i hi hne)⟩
theorem grown_set (w : World) (a : Addr) (v : Value) : w.grownBy (w.setCell a v) (some a.block) := ⟨rfl, rfl, rfl, by simp, fun k _ hk => Deep.blk_setCell_other _ _ _ _ (fun e => hk (by rw [e]))⟩
theorem grown_grow {w w' : World} (h : Grow w w') (row : Option Nat) : w.grownBy w' row := ⟨h.os, h.tape, h.output, h.size, fun k hk _ => h.block k hk⟩
theorem Blk.grownBy {w w' : World} {g : Nat} {t : TypeId} {cs : Array Value} {row : Option Nat} (h : Blk w g t cs) (hg : w.grownBy w' row) (hne : some g ≠ row) : Blk w' g t cs := by
 rw [Blk, hg.block g h.lt hne]; exact h
theorem below_by {B g : Nat} {w w' : World} (hg : w.grownBy w' (some g)) (hB : B ≤ w.heap.size) (h : B ≤ g) : Below B w w' := (Below.refl B w).grown hg hB (fun k hk => by obtain rfl := Option.some.inj hk; exact h)
theorem Blk.put1 {w : World} {g : Nat} {t : TypeId} {a : Value} (h : Blk w g t #[a]) (v : Value) : Blk (w.setCell ⟨g, 0, none⟩ v) g t #[v] := by
 have h0 : w.heap[g]? = some (.cells #[a] t (0, 0)) := h
 show (w.setCell ⟨g, 0, none⟩ v).heap[g]? = some (.cells #[v] t (0, 0))
 simp [World.setCell, Array.getElem?_modify, h0]
def Ln (w : World) (g e : Nat) : Prop := Blk w g 108 #[.int .u64 (e : Int)]
set_option maxHeartbeats 400000 in
theorem add_any (g e v a n : Nat) (w : World) (h : Ln w g e) (he : e ≤ 65537) (ha : a < 18446744073709551616) (h1 : ones a ≤ 1) (hn : n < 9223372036854775808) :
  Calls Try.prog 43 #[.pointer (some ⟨g, 0, none⟩), .int .u64 (v : Int), .int .u64 (a : Int), .int .u64 (n : Int)] w fun en w' =>
   en = .returned (.int .u64 (plc e v a : Nat)) ∧ Ln w' g (fin e v a n) ∧ w.grownBy w' (some g) := by
 unfold Ln at *
 have HN := hid (fun w => next_any e v a w he ha h1)
 have c0 : w.cell? ⟨g, 0, none⟩ = some (.int .u64 (e : Int)) := h.at 0
 have f0 := h.soft 0
 have HP := hid (h.put1 (.int .u64 (fin e v a n : Nat)))
 have HG := hid (grown_set w ⟨g, 0, none⟩ (.int .u64 (fin e v a n : Nat)))
 have q1 : (if (65537 : Int) < (nxt e v a : Nat) then (65537 : Int) else (nxt e v a : Nat)) = (plc e v a : Nat) := by unfold plc; split <;> omega
 have hp := plc_le e v a
 have q2 : IntKind.u64.wrap (((plc e v a : Nat) : Int) + (n : Int)) = ((plc e v a + n : Nat) : Int) := by rw [IntKind.wrap_u64]; omega
 have q3 : (if (65537 : Int) < ((plc e v a + n : Nat) : Int) then (65537 : Int) else ((plc e v a + n : Nat) : Int)) = (fin e v a n : Nat) := by unfold fin; split <;> omega
 generalize plc e v a + n = S at q2 q3
 generalize fin e v a n = F at HP HG q3 ⊢
 generalize plc e v a = R at q1 q2 ⊢
 generalize nxt e v a = N at HN q1
 clear h he ha h1 hn hp
 go_enter Try.func43, Try.ntmps43
 go_wp2_with fail
 refine (HN.out _).mono ?_
 rintro en w' ⟨rfl, rfl⟩
 go_wp2
 go_ret
 exact ⟨rfl, HP.out, HG.out⟩
end Go.Proofs.Ytaianmonokeimaa
namespace Go.Proofs.Ytaianmonokeimaa
open Go.Lib (hid)
open Go.RowKit
def ivl (k : IntKind) (f : Nat → Nat) (i : Nat) : Value := .int k (f i : Int)
def Row (w : World) (g n : Nat) (f : Nat → Nat) : Prop := w.rowIs g 28 n (ivl .u64 f)
theorem Row.grownBy {w w' : World} {g n : Nat} {f : Nat → Nat} {row : Option Nat} (h : Row w g n f) (hg : w.grownBy w' row) (hne : some g ≠ row) : Row w' g n f := by
 obtain ⟨cs, h1, h2, h3⟩ := h
 exact ⟨cs, Blk.grownBy h1 hg hne, h2, h3⟩
theorem Row.lt {w : World} {g n : Nat} {f : Nat → Nat} (h : Row w g n f) : g < w.heap.size := by
 obtain ⟨cs, h1, h2, h3⟩ := h
 exact Blk.lt h1
def PlcR (f : Nat → Nat) (n e : Nat) (p : Pl) (R E : Nat) : Prop :=
 (p.inn = -1 ∧ R = plc e 0 8 ∧ E = fin e 0 8 p.size) ∨ (∃ i : Nat, p.inn = (i : Int) ∧ i < n ∧ R = f i + p.off ∧ R < 18446744073709551616 ∧ E = e)
theorem ones8 : ones 8 ≤ 1 := by decide
set_option maxHeartbeats 1000000 in
theorem place_any (g e gs n : Nat) (f : Nat → Nat) (p : Pl) (S : Value) (R E : Nat) (w : World) (h : Ln w g e) (he : e ≤ 65537) (hr : Row w gs n f) (hP : PlcR f n e p R E) (hsz : p.size < 9223372036854775808) (hn : n ≤ 1000) :
  Calls Try.prog 71 #[.pointer (some ⟨g, 0, none⟩), .agg (plC p S), .slice (some ⟨gs, 0, none⟩) n n] w fun en w' =>
   en = .returned (.int .u64 (R : Nat)) ∧ Ln w' g E ∧ w.grownBy w' (some g) := by
 have HN := hid hn
 unfold plC
 rcases hP with ⟨hi, rfl, rfl⟩ | ⟨i, hi, hin, hR, hRl, rfl⟩
 ·rw [hi]
  have HA := hid (fun w' (hg : Grow w w') => add_any g e 0 8 p.size w' (Blk.grow h hg) he (by omega) ones8 hsz)
  generalize fin e 0 8 p.size = F at HA ⊢
  generalize plc e 0 8 = P at HA ⊢
  generalize p.size = sz at HA ⊢
  generalize p.off = of at HA ⊢
  clear h he hr hi hsz
  go_enter Try.func71, Try.ntmps71
  go_wp2_with fail
  generalize hW : World.alloc _ _ = W0
  obtain ⟨b1, hg0⟩ := blk1 hW
  clear hW
  obtain ⟨y0, y1, y2, y3⟩ := b1.c4
  have HG0 := hid hg0
  clear b1 hg0
  go_wp2_with fail
  clear y0 y1 y2 y3
  refine (HA.out _ HG0.out).mono ?_
  rintro en w1 ⟨rfl, hl, hg⟩
  have HL := hid hl
  have HG1 := hid (grown_trans (grown_grow HG0.out (some g)) hg)
  clear hl hg
  go_wp2
  go_ret
  exact ⟨rfl, HL.out, HG1.out⟩
 ·rw [hi]
  have c0 : w.cell? ⟨gs, i, none⟩ = some (.int .u64 (f i : Int)) := World.rowIs.cell hr hin
  have hb := hr.lt
  have C0 := hid c0
  have HIn := hid hin
  have HB := hid hb
  have HLn := hid h
  have e0 : ((i : Int) == -1) = false := by simp
  have z1 : IntKind.u64.wrap ((f i : Int) + (p.off : Int)) = (R : Int) := by rw [IntKind.wrap_u64]; omega
  generalize f i = x at C0 z1
  generalize p.size = sz
  generalize p.off = of at z1 ⊢
  clear h he hr hi hsz c0 hb hR hRl hn hin
  go_enter Try.func71, Try.ntmps71
  go_wp2_with fail
  generalize hW : World.alloc _ _ = W0
  obtain ⟨b1, hg0⟩ := blk1 hW
  clear hW
  obtain ⟨y0, y1, y2, y3⟩ := b1.c4
  have HG0 := hid hg0
  have c0 : W0.cell? ⟨gs, i, none⟩ = some (.int .u64 (x : Int)) := (Below.cell hg0 HB.out).trans C0.out
  clear b1 hg0
  have hin := HIn.out
  go_quiet (fail)
  clear c0 y0 y1 y2 y3 hin
  go_wp2
  go_ret
  exact ⟨rfl, HLn.out.grow (HG0.out.trans (Grow.of_drewN _ _)), grown_grow (HG0.out.trans (Grow.of_drewN _ _)) _⟩
end Go.Proofs.Ytaianmonokeimaa
