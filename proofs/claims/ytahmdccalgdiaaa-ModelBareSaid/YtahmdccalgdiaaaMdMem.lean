/-
  Models in memory: slices of structs that hold a slice of bytes, and the cells of a model. No program's function is spoken of here.
-/
import Derived.Test.YtahmdccalgdiaaaMdMath
import Derived.Test.YtahmdccalgdiaaaZapp
namespace Go.Proofs.Ytahmdccalgdiaaa
open Go.RowKit

/-- A kind of struct that holds one slice of bytes: how many cells, the cells, the bytes. -/
structure RK (α : Type) where
  z : Nat
  cs : α → Value → Array Value
  by_ : α → List UInt8
def sgC (g : Sg) (s : Value) : Array Value := #[.int .u32 (g.typ : Nat), .int .u32 (g.flags : Nat), .int .u64 (g.vaddr : Nat), .int .u64 (g.paddr : Nat), .int .u64 (g.memsz : Nat), .int .u64 (g.align : Nat), .int .i64 g.pl.inn, .int .u64 (g.pl.off : Nat), .int .u64 (g.pl.size : Nat), s]
def seC (g : Se) (s : Value) : Array Value := #[.int .u32 (g.name : Nat), .int .u32 (g.typ : Nat), .int .u64 (g.flags : Nat), .int .u64 (g.addr : Nat), .int .u64 (g.size : Nat), .int .u32 (g.link : Nat), .int .u32 (g.info : Nat), .int .u64 (g.align : Nat), .int .u64 (g.entsize : Nat), .int .i64 g.pl.inn, .int .u64 (g.pl.off : Nat), .int .u64 (g.pl.size : Nat), s]
def plC (p : Pl) (s : Value) : Array Value := #[.int .i64 p.inn, .int .u64 (p.off : Nat), .int .u64 (p.size : Nat), s]
def mdC (m : Md) (s t : Value) : Array Value := #[.bool m.wide, .bool m.big, .int .u8 (m.osabi : Nat), .int .u8 (m.abi : Nat), .int .u16 (m.typ : Nat), .int .u16 (m.mach : Nat), .int .u32 (m.flags : Nat), .int .u64 (m.entry : Nat), s, t, .int .i64 m.str]
def sgK : RK Sg := ⟨10, sgC, fun g => g.pl.own⟩
def seK : RK Se := ⟨13, seC, fun g => g.pl.own⟩

/-- The row r reads as a. -/
def RR {α : Type} (K : RK α) (w : World) (B : Nat) (r : Array Value) (a : α) : Prop := ∃ A n c, r = K.cs a (.slice A n c) ∧ RB w B A n c (K.by_ a)
/-- The slice (A, n, c) reads as L. -/
def ZR {α : Type} (K : RK α) (w : World) (B : Nat) (A : Option Addr) (n c : Nat) (L : List α) : Prop := ∃ R, ZS w B K.z A n c R ∧ R.length = L.length ∧ ∀ j (h : j < R.length) (h' : j < L.length), RR K w B R[j] L[j]

section
variable {α : Type} {K : RK α} {w w' : World} {B B0 B' : Nat} {A : Option Addr} {n c : Nat} {L : List α} {r : Array Value} {s : α}
theorem RR.belowAt (h : RR K w B r s) (hb : Below B0 w w') (hB : B ≤ B0) : RR K w' B r s := by
  obtain ⟨A, n, c, e, h1⟩ := h
  exact ⟨A, n, c, e, h1.belowAt hb hB⟩
theorem RR.more (h : RR K w B r s) (hB : B ≤ B') : RR K w B' r s := by
  obtain ⟨A, n, c, e, h1⟩ := h
  exact ⟨A, n, c, e, h1.more hB⟩
theorem ZR.belowAt (h : ZR K w B A n c L) (hb : Below B0 w w') (hB : B ≤ B0) : ZR K w' B A n c L := by
  obtain ⟨R, h1, h2, h3⟩ := h
  exact ⟨R, h1.belowAt hb hB, h2, fun j h h' => (h3 j h h').belowAt hb hB⟩
theorem ZR.more (h : ZR K w B A n c L) (hB : B ≤ B') : ZR K w B' A n c L := by
  obtain ⟨R, h1, h2, h3⟩ := h
  exact ⟨R, h1.more hB, h2, fun j h h' => (h3 j h h').more hB⟩
theorem ZR.grow (h : ZR K w w.heap.size A n c L) (hg : Grow w w') : ZR K w' w'.heap.size A n c L := (h.belowAt hg (Nat.le_refl _)).more hg.size
theorem ZR.len (h : ZR K w B A n c L) : n = L.length := by
  obtain ⟨R, h1, h2, _⟩ := h
  exact h1.len.trans h2
theorem ZR.cap (h : ZR K w B A n c L) : n ≤ c := by
  obtain ⟨R, h1, h2, _⟩ := h
  exact h1.cap
theorem ZR.max (h : ZR K w B A n c L) : c ≤ maxLen := by
  obtain ⟨R, h1, h2, _⟩ := h
  exact h1.max
theorem ZR.nil : ZR K w B none 0 0 [] := ⟨[], ZS.nil, rfl, fun j h => absurd h (by simp)⟩
theorem ZR.pos (h : ZR K w B A n c L) (hn : 0 < n) : ∃ b off, A = some ⟨b, off, none⟩ ∧ b < B := by
  obtain ⟨R, h1, h2, _⟩ := h
  obtain ⟨b, off, e, hb, _⟩ := h1.pos hn
  exact ⟨b, off, e, hb⟩
/-- One of them: its cells, and its bytes; and the row for a load of the whole. -/
theorem ZR.row (h : ZR K w B A n c L) : ∃ R, ZS w B K.z A n c R ∧ ∀ k (hk : k < L.length), ∃ (hR : k < R.length), ∃ A1 n1 c1, R[k] = K.cs L[k] (.slice A1 n1 c1) ∧ RB w B A1 n1 c1 (K.by_ L[k]) := by
  obtain ⟨R, h1, h2, h3⟩ := h
  refine ⟨R, h1, fun k hk => ?_⟩
  have hkR : k < R.length := by rw [h2]; exact hk
  exact ⟨hkR, h3 k hkR hk⟩
theorem ZR.at {b off k : Nat} (h : ZR K w B (some ⟨b, off, none⟩) n c L) (hk : k < L.length) : ∃ A1 n1 c1, b < B ∧
    (∀ i v, (K.cs L[k] (.slice A1 n1 c1))[i]? = some v → w.cell? ⟨b, off + k * K.z + i, none⟩ = some v) ∧ RB w B A1 n1 c1 (K.by_ L[k]) := by
  obtain ⟨R, h1, h2, h3⟩ := h
  have hkR : k < R.length := by rw [h2]; exact hk
  obtain ⟨A1, n1, c1, e, r1⟩ := h3 k hkR hk
  obtain ⟨b', off', e', hb, hc⟩ := h1.pos (by have := h1.len; omega)
  injection e' with e'
  injection e' with e1 e2
  subst e1; subst e2
  exact ⟨A1, n1, c1, hb, fun i v hv => hc k hkR i v (by rw [e]; exact hv), r1⟩
end

/-- The slices of a model read as its segments and its sections. -/
structure MR (w : World) (m : Md) (A1 : Option Addr) (n1 c1 : Nat) (A2 : Option Addr) (n2 c2 : Nat) : Prop where
  segs : ZR sgK w w.heap.size A1 n1 c1 m.segs
  secs : ZR seK w w.heap.size A2 n2 c2 m.secs
theorem MR.grow {w w' : World} {m : Md} {A1 A2 : Option Addr} {n1 c1 n2 c2 : Nat} (h : MR w m A1 n1 c1 A2 n2 c2) (hg : Grow w w') : MR w' m A1 n1 c1 A2 n2 c2 := ⟨h.segs.grow hg, h.secs.grow hg⟩

/-- The number of an error as a value. -/
def eC (c : Nat) : Value := if c = 0 then .nilIface else .iface 49 (.int .i64 (c : Int))
theorem eC_zero : eC 0 = .nilIface := rfl
theorem eC_some {c : Nat} (h : c ≠ 0) : eC c = .iface 49 (.int .i64 (c : Int)) := if_neg h

theorem Blk.c11 {w : World} {g : Nat} {t : TypeId} {a0 a1 a2 a3 a4 a5 a6 a7 a8 a9 a10 : Value} (h : Blk w g t #[a0, a1, a2, a3, a4, a5, a6, a7, a8, a9, a10]) :
    w.cell? ⟨g, 0, none⟩ = some a0 ∧ w.cell? ⟨g, 1, none⟩ = some a1 ∧ w.cell? ⟨g, 2, none⟩ = some a2 ∧ w.cell? ⟨g, 3, none⟩ = some a3 ∧ w.cell? ⟨g, 4, none⟩ = some a4 ∧ w.cell? ⟨g, 5, none⟩ = some a5 ∧ w.cell? ⟨g, 6, none⟩ = some a6 ∧ w.cell? ⟨g, 7, none⟩ = some a7 ∧ w.cell? ⟨g, 8, none⟩ = some a8 ∧ w.cell? ⟨g, 9, none⟩ = some a9 ∧ w.cell? ⟨g, 10, none⟩ = some a10 :=
  ⟨h.at 0, h.at 1, h.at 2, h.at 3, h.at 4, h.at 5, h.at 6, h.at 7, h.at 8, h.at 9, h.at 10⟩
end Go.Proofs.Ytahmdccalgdiaaa
