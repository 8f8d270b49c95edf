/-
  Several texts in one: Models in memory; The contracts of (line); The contract of (line); The contract of (line); The contract of (line).
-/
import Derived.Test.YtfbimboemahhhaaGreatDoorTfG4
import Derived.Deep.OwnRows
import Derived.WalkKit
import Derived.BigQuiet
import Derived.Deep.QuietTactic
import Derived.Lib.Hide
import Derived.Laws.MakeOwn
namespace Go.Proofs.YtfbimboemahhhaaGreatDoor
open Go.Lib (hid)
open Go.RowKit
structure RK (α : Type) where
 z : Nat
 cs : α → Value → Array Value
 by_ : α → List UInt8
def sgC (g : Sg) (s : Value) : Array Value := #[.int .u32 (g.typ : Nat), .int .u32 (g.flags : Nat), .int .u64 (g.vaddr : Nat), .int .u64 (g.paddr : Nat), .int .u64 (g.memsz : Nat), .int .u64 (g.align : Nat), .int .i64 g.pl.inn, .int .u64 (g.pl.off : Nat), .int .u64 (g.pl.size : Nat), s]
def seC (g : Se) (s : Value) : Array Value := #[.int .u32 (g.name : Nat), .int .u32 (g.typ : Nat), .int .u64 (g.flags : Nat), .int .u64 (g.addr : Nat), .int .u64 (g.size : Nat), .int .u32 (g.link : Nat), .int .u32 (g.info : Nat), .int .u64 (g.align : Nat), .int .u64 (g.entsize : Nat), .int .i64 g.pl.inn, .int .u64 (g.pl.off : Nat), .int .u64 (g.pl.size : Nat), s]
def plC (p : Pl) (s : Value) : Array Value := #[.int .i64 p.inn, .int .u64 (p.off : Nat), .int .u64 (p.size : Nat), s]
def mdC (m : Md) (s t : Value) : Array Value := #[.bool m.wide, .bool m.big, .int .u8 (m.osabi : Nat), .int .u8 (m.abi : Nat), .int .u16 (m.typ : Nat), .int .u16 (m.mach : Nat), .int .u32 (m.flags : Nat), .int .u64 (m.entry : Nat), s, t, .int .i64 m.str]
def sgK : RK Sg := ⟨10, sgC, fun g => g.pl.own⟩
def seK : RK Se := ⟨13, seC, fun g => g.pl.own⟩
def RR {α : Type} (K : RK α) (w : World) (B : Nat) (r : Array Value) (a : α) : Prop := ∃ A n c, r = K.cs a (.slice A n c) ∧ RB w B A n c (K.by_ a)
def ZR {α : Type} (K : RK α) (w : World) (B : Nat) (A : Option Addr) (n c : Nat) (L : List α) : Prop := ∃ R, ZS w B K.z A n c R ∧ R.length = L.length ∧ ∀ j (h : j < R.length) (h' : j < L.length), RR K w B R[j] L[j]
section
variable {α : Type} {K : RK α} {w w' : World} {B B0 B' : Nat} {A : Option Addr} {n c : Nat} {L : List α} {r : Array Value} {s : α}
theorem RR.belowAt (h : RR K w B r s) (hb : Below B0 w w') (hB : B ≤ B0) : RR K w' B r s := by
 obtain ⟨A, n, c, e, h1⟩ := h
 exact ⟨A, n, c, e, h1.belowAt hb hB⟩
theorem RR.more (h : RR K w B r s) (hB : B ≤ B') : RR K w B' r s := by
 obtain ⟨A, n, c, e, h1⟩ := h
 exact ⟨A, n, c, e, h1.more hB⟩
theorem ZR.belowAt (h : ZR K w B A n c L) (hb : Below B0 w w') (hB : B ≤ B0) : ZR K w' B A n c L := by
 obtain ⟨R, h1, h2, h3⟩ := h
 exact ⟨R, h1.belowAt hb hB, h2, fun j h h' => (h3 j h h').belowAt hb hB⟩
theorem ZR.more (h : ZR K w B A n c L) (hB : B ≤ B') : ZR K w B' A n c L := by
 obtain ⟨R, h1, h2, h3⟩ := h
 exact ⟨R, h1.more hB, h2, fun j h h' => (h3 j h h').more hB⟩
theorem ZR.grow (h : ZR K w w.heap.size A n c L) (hg : Grow w w') : ZR K w' w'.heap.size A n c L := (h.belowAt hg (Nat.le_refl _)).more hg.size
theorem ZR.len (h : ZR K w B A n c L) : n = L.length := by
 obtain ⟨R, h1, h2, _⟩ := h
 exact h1.len.trans h2
theorem ZR.cap (h : ZR K w B A n c L) : n ≤ c := by
 obtain ⟨R, h1, h2, _⟩ := h
 exact h1.cap
theorem ZR.max (h : ZR K w B A n c L) : c ≤ maxLen := by
 obtain ⟨R, h1, h2, _⟩ := h
 exact h1.max
theorem ZR.nil : ZR K w B none 0 0 [] := ⟨[], ZS.nil, rfl, fun j h => absurd h (by simp)⟩
theorem ZR.pos (h : ZR K w B A n c L) (hn : 0 < n) : ∃ b off, A = some ⟨b, off, none⟩ ∧ b < B := by
 obtain ⟨R, h1, h2, _⟩ := h
 obtain ⟨b, off, e, hb, _⟩ := h1.pos hn
 exact ⟨b, off, e, hb⟩
theorem ZR.at {b off k : Nat} (h : ZR K w B (some ⟨b, off, none⟩) n c L) (hk : k < L.length) : ∃ A1 n1 c1, b < B ∧
  (∀ i v, (K.cs L[k] (.slice A1 n1 c1))[i]? = some v → w.cell? ⟨b, off + k * K.z + i, none⟩ = some v) ∧ RB w B A1 n1 c1 (K.by_ L[k]) := by
 obtain ⟨R, h1, h2, h3⟩ := h
 have hkR : k < R.length := by rw [h2]; exact hk
 obtain ⟨A1, n1, c1, e, r1⟩ := h3 k hkR hk
 obtain ⟨b', off', e', hb, hc⟩ := h1.pos (by have := h1.len; omega)
 injection e' with e'
 injection e' with e1 e2
 subst e1; subst e2
 exact ⟨A1, n1, c1, hb, fun i v hv => hc k hkR i v (by rw [e]; exact hv), r1⟩
end
def eC (c : Nat) : Value := if c = 0 then .nilIface else .iface 86 (.int .i64 (c : Int))
theorem eC_zero : eC 0 = .nilIface := rfl
theorem eC_some {c : Nat} (h : c ≠ 0) : eC c = .iface 86 (.int .i64 (c : Int)) := if_neg h
theorem Blk.c11 {w : World} {g : Nat} {t : TypeId} {a0 a1 a2 a3 a4 a5 a6 a7 a8 a9 a10 : Value} (h : Blk w g t #[a0, a1, a2, a3, a4, a5, a6, a7, a8, a9, a10]) :
  w.cell? ⟨g, 0, none⟩ = some a0 ∧ w.cell? ⟨g, 1, none⟩ = some a1 ∧ w.cell? ⟨g, 2, none⟩ = some a2 ∧ w.cell? ⟨g, 3, none⟩ = some a3 ∧ w.cell? ⟨g, 4, none⟩ = some a4 ∧ w.cell? ⟨g, 5, none⟩ = some a5 ∧ w.cell? ⟨g, 6, none⟩ = some a6 ∧ w.cell? ⟨g, 7, none⟩ = some a7 ∧ w.cell? ⟨g, 8, none⟩ = some a8 ∧ w.cell? ⟨g, 9, none⟩ = some a9 ∧ w.cell? ⟨g, 10, none⟩ = some a10 :=
 ⟨h.at 0, h.at 1, h.at 2, h.at 3, h.at 4, h.at 5, h.at 6, h.at 7, h.at 8, h.at 9, h.at 10⟩
theorem grown_trans {w a b : World} {row : Option Nat} (h : w.grownBy a row) (k : a.grownBy b row) : w.grownBy b row :=
 ⟨k.os.trans h.os, k.tape.trans h.tape, k.output.trans h.output, Nat.le_trans h.size k.size, fun i hi hne => (k.block i (Nat.lt_of_lt_of_le hi h.size) hne).trans (h.block i hi hne)⟩
theorem grown_set (w : World) (a : Addr) (v : Value) : w.grownBy (w.setCell a v) (some a.block) := ⟨rfl, rfl, rfl, by simp, fun k _ hk => Deep.blk_setCell_other _ _ _ _ (fun e => hk (by rw [e]))⟩
theorem grown_grow {w w' : World} (h : Grow w w') (row : Option Nat) : w.grownBy w' row := ⟨h.os, h.tape, h.output, h.size, fun k hk _ => h.block k hk⟩
theorem Blk.grownBy {w w' : World} {g : Nat} {t : TypeId} {cs : Array Value} {row : Option Nat} (h : Blk w g t cs) (hg : w.grownBy w' row) (hne : some g ≠ row) : Blk w' g t cs := by
 rw [Blk, hg.block g h.lt hne]; exact h
theorem below_by {B g : Nat} {w w' : World} (hg : w.grownBy w' (some g)) (hB : B ≤ w.heap.size) (h : B ≤ g) : Below B w w' := (Below.refl B w).grown hg hB (fun k hk => by obtain rfl := Option.some.inj hk; exact h)
theorem Blk.put1 {w : World} {g : Nat} {t : TypeId} {a : Value} (h : Blk w g t #[a]) (v : Value) : Blk (w.setCell ⟨g, 0, none⟩ v) g t #[v] := by
 have h0 : w.heap[g]? = some (.cells #[a] t (0, 0)) := h
 show (w.setCell ⟨g, 0, none⟩ v).heap[g]? = some (.cells #[v] t (0, 0))
 simp [World.setCell, Array.getElem?_modify, h0]
def Ln (w : World) (g e : Nat) : Prop := Blk w g 220 #[.int .u64 (e : Int)]
set_option maxHeartbeats 400000 in
theorem add_any (g e v a n : Nat) (w : World) (h : Ln w g e) (he : e ≤ 65537) (ha : a < 18446744073709551616) (h1 : ones a ≤ 1) (hn : n < 9223372036854775808) :
  Calls Tryz.prog 119 #[.pointer (some ⟨g, 0, none⟩), .int .u64 (v : Int), .int .u64 (a : Int), .int .u64 (n : Int)] w fun en w' =>
   en = .returned (.int .u64 (plc e v a : Nat)) ∧ Ln w' g (fin e v a n) ∧ w.grownBy w' (some g) := by
 unfold Ln at *
 have HN := hid (fun w => next_any e v a w he ha h1)
 have c0 : w.cell? ⟨g, 0, none⟩ = some (.int .u64 (e : Int)) := h.at 0
 have f0 := h.soft 0
 have HP := hid (h.put1 (.int .u64 (fin e v a n : Nat)))
 have HG := hid (grown_set w ⟨g, 0, none⟩ (.int .u64 (fin e v a n : Nat)))
 have q1 : (if (65537 : Int) < (nxt e v a : Nat) then (65537 : Int) else (nxt e v a : Nat)) = (plc e v a : Nat) := by unfold plc; split <;> omega
 have hp := plc_le e v a
 have q2 : IntKind.u64.wrap (((plc e v a : Nat) : Int) + (n : Int)) = ((plc e v a + n : Nat) : Int) := by rw [IntKind.wrap_u64]; omega
 have q3 : (if (65537 : Int) < ((plc e v a + n : Nat) : Int) then (65537 : Int) else ((plc e v a + n : Nat) : Int)) = (fin e v a n : Nat) := by unfold fin; split <;> omega
 generalize plc e v a + n = S at q2 q3
 generalize fin e v a n = F at HP HG q3 ⊢
 generalize plc e v a = R at q1 q2 ⊢
 generalize nxt e v a = N at HN q1
 clear h he ha h1 hn hp
 go_enter Tryz.func119, Tryz.ntmps119
 go_wp2_with fail
 refine (HN.out _).mono ?_
 rintro en w' ⟨rfl, rfl⟩
 go_wp2
 go_ret
 exact ⟨rfl, HP.out, HG.out⟩
def ivl (k : IntKind) (f : Nat → Nat) (i : Nat) : Value := .int k (f i : Int)
def Row (w : World) (g n : Nat) (f : Nat → Nat) : Prop := w.rowIs g 37 n (ivl .u64 f)
theorem Row.grownBy {w w' : World} {g n : Nat} {f : Nat → Nat} {row : Option Nat} (h : Row w g n f) (hg : w.grownBy w' row) (hne : some g ≠ row) : Row w' g n f := by
 obtain ⟨cs, h1, h2, h3⟩ := h
 exact ⟨cs, Blk.grownBy h1 hg hne, h2, h3⟩
theorem Row.lt {w : World} {g n : Nat} {f : Nat → Nat} (h : Row w g n f) : g < w.heap.size := by
 obtain ⟨cs, h1, h2, h3⟩ := h
 exact Blk.lt h1
def PlcR (f : Nat → Nat) (n e : Nat) (p : Pl) (R E : Nat) : Prop :=
 (p.inn = -1 ∧ R = plc e 0 8 ∧ E = fin e 0 8 p.size) ∨ (∃ i : Nat, p.inn = (i : Int) ∧ i < n ∧ R = f i + p.off ∧ R < 18446744073709551616 ∧ E = e)
theorem ones8 : ones 8 ≤ 1 := by decide
set_option maxHeartbeats 1000000 in
theorem place_any (g e gs n : Nat) (f : Nat → Nat) (p : Pl) (S : Value) (R E : Nat) (w : World) (h : Ln w g e) (he : e ≤ 65537) (hr : Row w gs n f) (hP : PlcR f n e p R E) (hsz : p.size < 9223372036854775808) (hn : n ≤ 1000) :
  Calls Tryz.prog 152 #[.pointer (some ⟨g, 0, none⟩), .agg (plC p S), .slice (some ⟨gs, 0, none⟩) n n] w fun en w' =>
   en = .returned (.int .u64 (R : Nat)) ∧ Ln w' g E ∧ w.grownBy w' (some g) := by
 have HN := hid hn
 unfold plC
 rcases hP with ⟨hi, rfl, rfl⟩ | ⟨i, hi, hin, hR, hRl, rfl⟩
 ·rw [hi]
  have HA := hid (fun w' (hg : Grow w w') => add_any g e 0 8 p.size w' (Blk.grow h hg) he (by omega) ones8 hsz)
  generalize fin e 0 8 p.size = F at HA ⊢
  generalize plc e 0 8 = P at HA ⊢
  generalize p.size = sz at HA ⊢
  generalize p.off = of at HA ⊢
  clear h he hr hi hsz
  go_enter Tryz.func152, Tryz.ntmps152
  go_wp2_with fail
  generalize hW : World.alloc _ _ = W0
  obtain ⟨b1, hg0⟩ := blk1 hW
  clear hW
  obtain ⟨y0, y1, y2, y3⟩ := b1.c4
  have HG0 := hid hg0
  clear b1 hg0
  go_wp2_with fail
  clear y0 y1 y2 y3
  refine (HA.out _ HG0.out).mono ?_
  rintro en w1 ⟨rfl, hl, hg⟩
  have HL := hid hl
  have HG1 := hid (grown_trans (grown_grow HG0.out (some g)) hg)
  clear hl hg
  go_wp2
  go_ret
  exact ⟨rfl, HL.out, HG1.out⟩
 ·rw [hi]
  have c0 : w.cell? ⟨gs, i, none⟩ = some (.int .u64 (f i : Int)) := World.rowIs.cell hr hin
  have hb := hr.lt
  have C0 := hid c0
  have HIn := hid hin
  have HB := hid hb
  have HLn := hid h
  have e0 : ((i : Int) == -1) = false := by simp
  have z1 : IntKind.u64.wrap ((f i : Int) + (p.off : Int)) = (R : Int) := by rw [IntKind.wrap_u64]; omega
  generalize f i = x at C0 z1
  generalize p.size = sz
  generalize p.off = of at z1 ⊢
  clear h he hr hi hsz c0 hb hR hRl hn hin
  go_enter Tryz.func152, Tryz.ntmps152
  go_wp2_with fail
  generalize hW : World.alloc _ _ = W0
  obtain ⟨b1, hg0⟩ := blk1 hW
  clear hW
  obtain ⟨y0, y1, y2, y3⟩ := b1.c4
  have HG0 := hid hg0
  have c0 : W0.cell? ⟨gs, i, none⟩ = some (.int .u64 (x : Int)) := (Below.cell hg0 HB.out).trans C0.out
  clear b1 hg0
  have hin := HIn.out
  go_quiet (fail)
  clear c0 y0 y1 y2 y3 hin
  go_wp2
  go_ret
  exact ⟨rfl, HLn.out.grow (HG0.out.trans (Grow.of_drewN _ _)), grown_grow (HG0.out.trans (Grow.of_drewN _ _)) _⟩
def upTo (f : Nat → Nat) (k j : Nat) : Nat := if j < k then f j else 0
theorem upTo_set (kd : IntKind) (f : Nat → Nat) (k j : Nat) : (if j = k then Value.int kd (f k : Int) else ivl kd (upTo f k) j) = ivl kd (upTo f (k + 1)) j := by
 unfold ivl upTo
 by_cases e : j = k
 ·subst e
  rw [if_pos rfl, if_pos (by omega)]
 ·rw [if_neg e]
  by_cases h : j < k
  ·rw [if_pos h, if_pos (by omega)]
  ·rw [if_neg h, if_neg (by omega)]
theorem upTo_all {w : World} {g n : Nat} {f : Nat → Nat} (h : Row w g n (upTo f n)) : Row w g n f :=
 World.rowIs.congr h fun i hi => by unfold ivl upTo; rw [if_pos hi]
theorem rows_new (w : World) (n : Nat) (f : Nat → Nat) : Row (w.alloc (.cells (madeCells #[.int .u64 0] n) 37)) w.heap.size n (upTo f 0) :=
 (World.rowIs_made w (.int .u64 0) n 37).congr fun i _ => by simp [ivl, upTo]
theorem Row.put {w : World} {g n : Nat} {f : Nat → Nat} {k : Nat} (h : Row w g n (upTo f k)) : Row (w.setCell ⟨g, k, none⟩ (.int .u64 (f k : Int))) g n (upTo f (k + 1)) :=
 (World.rowIs.set h k _).congr fun j _ => upTo_set .u64 f k j
theorem grown_own {w w1 : World} {row : Option Nat} (h : w.grownBy w1 row) {g : Nat} (hg : w.heap.size ≤ g) (i : Nat) (v : Value) : w.grownBy (w1.setCell ⟨g, i, none⟩ v) row :=
 ⟨h.os, h.tape, h.output, by simpa using h.size, fun k hk hne => (Deep.blk_setCell_other _ _ _ _ (show k ≠ g by omega)).trans (h.block k hk hne)⟩
theorem Md.plc3 (m : Md) (n k : Nat) (h : (m.se k).pl.inn = -1 ∨ (∃ i : Nat, (m.se k).pl.inn = (i : Int) ∧ i < n ∧ m.P2 i + (m.se k).pl.off < 18446744073709551616)) : PlcR m.P2 n (m.eS k) (m.se k).pl (m.P3 k) (m.eS (k + 1)) := by
 rcases h with h | ⟨i, h, hi, hl⟩
 ·refine .inl ⟨h, ?_, ?_⟩
  ·unfold Md.P3; rw [if_pos h]
  ·rw [Md.eS, if_pos h]
 ·have hne : ¬ ((m.se k).pl.inn = -1) := by omega
  have e : m.P3 k = m.P2 i + (m.se k).pl.off := by unfold Md.P3; rw [if_neg hne, h]; rfl
  exact .inr ⟨i, h, hi, e, by rw [e]; exact hl, by rw [Md.eS, if_neg hne]⟩
set_option maxHeartbeats 2000000 in
theorem secs_any (m : Md) (g gs n1 B : Nat) (A2 : Option Addr) (n2 c2 : Nat) (w : World) (h : Ln w g (m.eS 0)) (hle : ∀ k, m.eS k ≤ 65537) (hz : ZR seK w B A2 n2 c2 m.secs) (hB : B ≤ g) (hr : Row w gs n1 m.P2) (hne : gs ≠ g)
  (hpl : ∀ k, k < n2 → (m.se k).pl.inn = -1 ∨ (∃ i : Nat, (m.se k).pl.inn = (i : Int) ∧ i < n1 ∧ m.P2 i + (m.se k).pl.off < 18446744073709551616)) (hsz : ∀ k, k < n2 → (m.se k).pl.size < 9223372036854775808) (hn1 : n1 ≤ 1000) (hn2 : n2 ≤ 1000) :
  Calls Tryz.prog 122 #[.pointer (some ⟨g, 0, none⟩), .slice A2 n2 c2, .slice (some ⟨gs, 0, none⟩) n1 n1] w fun en w' =>
   ∃ ga, en = .returned (.slice (some ⟨ga, 0, none⟩) n2 n2) ∧ w.heap.size ≤ ga ∧ Row w' ga n2 m.P3 ∧ Ln w' g (m.eS n2) ∧ w.grownBy w' (some g) := by
 have hmk : ∀ W : World, (Instr.makeSlice 30 (.int .i64 (n2 : Int)) (.int .i64 (n2 : Int))).run Tryz.prog W = .ok (.slice (some ⟨W.heap.size, 0, none⟩) n2 n2) (W.alloc (.cells (madeCells #[.int .u64 0] n2) 37)) :=
  fun W => run_make_row' 30 37 (.int .u64 0) 8 Tryz.underlying30 (by kernel_rfl) rfl _ _ n2 (by omega) (by omega) W
 have HPl := hid (fun k hk => m.plc3 n1 k (hpl k hk))
 have HSz := hid hsz
 have HLe := hid hle
 have HR := hid (rows_new w n2 m.P3)
 have HG := hid (grown_grow (Grow.of_alloc w (.cells (madeCells #[.int .u64 0] n2) 37)) (some g))
 have HL0 : Hid (Ln (w.alloc (.cells (madeCells #[.int .u64 0] n2) 37)) g (m.eS 0)) := hid (Blk.alloc h _)
 have hgl : g < w.heap.size := Blk.lt h
 have HS := hid hr
 have HZ := hid hz
 have HLn := hid hz.len
 have hzc := hz.cap
 have hzm := hz.max
 unfold maxLen at hzm
 have HB := hid hB
 have HN1 := hid hn1
 have HNe := hid (show some gs ≠ some g from fun e => hne (Option.some.inj e))
 have HGl := hid hgl
 clear h hle hz hB hr hne hpl hsz hn1 hgl
 go_enter Tryz.func122, Tryz.ntmps122
 go_wp2_with fail
 clear hmk
 obtain ⟨ga, hga⟩ : ∃ ga, ga = w.heap.size := ⟨_, rfl⟩
 rw [← hga] at HR ⊢
 have HGa := hid hga
 generalize World.alloc _ _ = W0 at HR HG HL0 ⊢
 clear hga
 go_loopw [15] (fun i wr => ∃ k : Nat, k ≤ n2 ∧ i = .int .i64 k ∧ Row wr ga n2 (upTo m.P3 k) ∧ Ln wr g (m.eS k) ∧ w.grownBy wr (some g)) (fun i _ => n2 - (intOf i).toNat)
 case atStart => exact ⟨0, by omega, rfl, HR.out, HL0.out, HG.out⟩
 case round =>
  obtain ⟨k, hk, rfl, hrow, hln, hgr⟩ := hrel
  have HRow := hid hrow
  have HLi := hid hln
  have HGr := hid hgr
  have hgaw := hid (World.rowIs.lt hrow)
  clear hrow hln hgr HR HG HL0
  by_cases hlt : k < n2
  ·have hkl : k < m.secs.length := by rw [← HLn.out]; exact hlt
   obtain ⟨b, off, rfl, hb⟩ := HZ.out.pos (by omega)
   obtain ⟨Ak, nk, ck, -, hcell, gk⟩ := HZ.out.at hkl
   have hse : m.secs[k] = m.se k := by unfold Md.se; rw [List.getD_eq_getElem?_getD, List.getElem?_eq_getElem hkl]; rfl
   rw [hse] at hcell
   have hbel : Below B w wr := below_by HGr.out (by have := HB.out; have := HGl.out; omega) HB.out
   have hcell' : ∀ i v, (seC (m.se k) (.slice Ak nk ck))[i]? = some v → wr.cell? ⟨b, off + k * 13 + i, none⟩ = some v := fun i v hv => (hbel.cell hb).trans (hcell i v hv)
   have HA := hid (fun w' (hg : Grow wr w') => place_any g (m.eS k) gs n1 m.P2 (m.se k).pl (.slice Ak nk ck) (m.P3 k) (m.eS (k + 1)) w' (Blk.grow HLi.out hg) (HLe.out k) ((HS.out.grownBy HGr.out HNe.out).grownBy (grown_grow hg (some g)) HNe.out) (HPl.out k hlt) (HSz.out k hlt) HN1.out)
   unfold plC at HA
   unfold seC at hcell'
   clear hse hcell gk hbel hkl
   generalize m.se k = s at hcell' HA
   have t0 : wr.cell? ⟨b, off + k * 13, none⟩ = _ := hcell' 0 _ rfl
   have t1 := hcell' 1 _ rfl
   have t2 := hcell' 2 _ rfl
   have t3 := hcell' 3 _ rfl
   have t4 := hcell' 4 _ rfl
   have t5 := hcell' 5 _ rfl
   have t6 := hcell' 6 _ rfl
   have t7 := hcell' 7 _ rfl
   have t8 := hcell' 8 _ rfl
   have t9 := hcell' 9 _ rfl
   have t10 := hcell' 10 _ rfl
   have t11 := hcell' 11 _ rfl
   have t12 := hcell' 12 _ rfl
   clear hcell'
   go_wp2_with fail
   generalize hW : World.alloc _ _ = W1
   obtain ⟨b5, hg5⟩ := blk1 hW
   clear hW t0 t1 t2 t3 t4 t5 t6 t7 t8 t9 t10 t11 t12
   have HG5 := hid hg5
   have r9 := b5.at 9
   have r10 := b5.at 10
   have r11 := b5.at 11
   have r12 := b5.at 12
   clear b5 hg5
   go_wp2_with fail
   clear r9 r10 r11 r12
   refine (HA.out _ HG5.out).mono ?_
   rintro en w2 ⟨rfl, hl2, hg2⟩
   have HGr2 := hid (grown_trans HGr.out (grown_trans (grown_grow HG5.out (some g)) hg2))
   have hne2 : some ga ≠ some g := fun e => by have := Option.some.inj e; have h1 := HGl.out; have h2 := HGa.out; omega
   have HRow2 := hid (HRow.out.grownBy (grown_trans (grown_grow HG5.out (some g)) hg2) hne2)
   have HL2 := hid hl2
   have hc2 := World.rowIs.cell HRow2.out hlt
   have hf2 := World.rowIs.frozen HRow2.out k
   have hne3 := hid hne2
   clear hl2 hg2 hne2 HA HGr HG5 HRow HLi
   have HRow3 := hid HRow2.out.put
   have HGr3 := hid (grown_own HGr2.out (Nat.le_of_eq HGa.out.symm) k (.int .u64 (m.P3 k : Nat)))
   have HL3 : Hid (Ln (w2.setCell ⟨ga, k, none⟩ (.int .u64 (m.P3 k : Nat))) g (m.eS (k + 1))) := hid (Blk.cellset HL2.out (fun e => hne3.out (by simp [e])) _)
   generalize m.P3 k = R at HRow3 HGr3 HL3 ⊢
   go_wp2
   go_roundw
   case rel => exact ⟨k + 1, by omega, by go_num, HRow3.out, HL3.out, HGr3.out⟩
   case measure => simp [intOf]; omega
  ·have hkn : k = n2 := by omega
   subst hkn
   have HF := hid (upTo_all HRow.out)
   go_wp2
   go_ret
   exact ⟨ga, rfl, Nat.le_of_eq HGa.out.symm, HF.out, HLi.out, HGr.out⟩
def mixP (m : Md) (k j : Nat) : Nat := if j < k then m.P2 j else m.P1 j
theorem mix_zero (m : Md) : mixP m 0 = m.P1 := by funext j; unfold mixP; rw [if_neg (by omega)]
theorem mix_keep (m : Md) (k : Nat) (h : (m.sg k).typ = 1) : mixP m (k + 1) = mixP m k := by
 funext j
 unfold mixP
 by_cases e : j = k
 ·subst e
  rw [if_pos (by omega), if_neg (by omega)]
  unfold Md.P2
  rw [if_pos h]
 ·by_cases e2 : j < k
  ·rw [if_pos (by omega), if_pos e2]
  ·rw [if_neg (by omega), if_neg e2]
theorem mix_set (m : Md) (k j : Nat) : (if j = k then Value.int .u64 (m.P2 k : Int) else ivl .u64 (mixP m k) j) = ivl .u64 (mixP m (k + 1)) j := by
 unfold ivl mixP
 by_cases e : j = k
 ·subst e
  rw [if_pos rfl, if_pos (by omega)]
 ·rw [if_neg e]
  by_cases h : j < k
  ·rw [if_pos h, if_pos (by omega)]
  ·rw [if_neg h, if_neg (by omega)]
theorem mix_all {w : World} {m : Md} {g n : Nat} (h : Row w g n (mixP m n)) : Row w g n m.P2 :=
 World.rowIs.congr h fun i hi => by unfold ivl mixP; rw [if_pos hi]
theorem mix_loaded (m : Md) (k i : Nat) (h : (m.sg i).typ = 1) : mixP m k i = m.P1 i := by
 unfold mixP
 split
 ·unfold Md.P2; rw [if_pos h]
 ·rfl
theorem upTo_skip (m : Md) (k : Nat) (h : (m.sg k).typ ≠ 1) : upTo m.P1 (k + 1) = upTo m.P1 k := by
 funext j
 unfold upTo
 by_cases e : j = k
 ·subst e
  rw [if_pos (by omega), if_neg (by omega)]
  unfold Md.P1
  rw [if_neg h]
 ·by_cases e2 : j < k
  ·rw [if_pos (by omega), if_pos e2]
  ·rw [if_neg (by omega), if_neg e2]
structure SgP (m : Md) (n k : Nat) : Prop where
 align : (m.sg k).align < 18446744073709551616
 ones : ones (m.sg k).align ≤ 1
 size : (m.sg k).pl.size < 9223372036854775808
 pl : (m.sg k).typ ≠ 1 → (m.sg k).pl.inn = -1 ∨ (∃ i : Nat, (m.sg k).pl.inn = (i : Int) ∧ i < n ∧ (m.sg i).typ = 1 ∧ (m.sg k).pl.off < 9223372036854775808)
theorem Md.plc2 (m : Md) (n k : Nat) (h : SgP m n k) (ht : (m.sg k).typ ≠ 1) : PlcR (mixP m k) n (m.eO k) (m.sg k).pl (m.P2 k) (m.eO (k + 1)) := by
 rcases h.pl ht with h | ⟨i, h, hi, hty, hl⟩
 ·refine .inl ⟨h, ?_, ?_⟩
  ·unfold Md.P2; rw [if_neg ht, if_pos h]
  ·rw [Md.eO, if_neg ht, if_pos h]
 ·have hne : ¬ ((m.sg k).pl.inn = -1) := by omega
  have e : m.P2 k = m.P1 i + (m.sg k).pl.off := by unfold Md.P2; rw [if_neg ht, if_neg hne, h]; rfl
  have hl1 := m.P1_le i
  exact .inr ⟨i, h, hi, by rw [e, mix_loaded m k i hty], by rw [e]; omega, by rw [Md.eO, if_neg ht, if_neg hne]⟩
theorem Md.add1 (m : Md) (k : Nat) (ht : (m.sg k).typ = 1) : plc (m.eL k) (m.sg k).vaddr (m.sg k).align = m.P1 k ∧ fin (m.eL k) (m.sg k).vaddr (m.sg k).align (m.sg k).pl.size = m.eL (k + 1) := by
 constructor
 ·unfold Md.P1; rw [if_pos ht]
 ·rw [Md.eL, if_pos ht]
set_option maxHeartbeats 4000000 in
theorem segs_any (m : Md) (g B : Nat) (A1 : Option Addr) (n1 c1 : Nat) (w : World) (h : Ln w g m.e1) (hle : ∀ k, m.eL k ≤ 65537) (hlo : ∀ k, m.eO k ≤ 65537) (hz : ZR sgK w B A1 n1 c1 m.segs) (hB : B ≤ g)
  (hpl : ∀ k, k < n1 → SgP m n1 k) (hn1 : n1 ≤ 1000) :
  Calls Tryz.prog 121 #[.pointer (some ⟨g, 0, none⟩), .slice A1 n1 c1] w fun en w' =>
   ∃ ga, en = .returned (.slice (some ⟨ga, 0, none⟩) n1 n1) ∧ w.heap.size ≤ ga ∧ Row w' ga n1 m.P2 ∧ Ln w' g (m.eO n1) ∧ w.grownBy w' (some g) := by
 have hmk : ∀ W : World, (Instr.makeSlice 30 (.int .i64 (n1 : Int)) (.int .i64 (n1 : Int))).run Tryz.prog W = .ok (.slice (some ⟨W.heap.size, 0, none⟩) n1 n1) (W.alloc (.cells (madeCells #[.int .u64 0] n1) 37)) :=
  fun W => run_make_row' 30 37 (.int .u64 0) 8 Tryz.underlying30 (by kernel_rfl) rfl _ _ n1 (by omega) (by omega) W
 have HPl := hid hpl
 have HLe := hid hle
 have HLo := hid hlo
 have HR := hid (rows_new w n1 m.P1)
 have HG := hid (grown_grow (Grow.of_alloc w (.cells (madeCells #[.int .u64 0] n1) 37)) (some g))
 have HL0 : Hid (Ln (w.alloc (.cells (madeCells #[.int .u64 0] n1) 37)) g (m.eL 0)) := hid (Blk.alloc h _)
 have hgl : g < w.heap.size := Blk.lt h
 have HZ := hid hz
 have HLn := hid hz.len
 have hzc := hz.cap
 have hzm := hz.max
 unfold maxLen at hzm
 have HB := hid hB
 have HN1 := hid hn1
 have HGl := hid hgl
 have HOe : Hid (m.eO 0 = m.eL n1) := hid (by rw [HLn.out]; rfl)
 clear h hle hlo hz hB hpl hgl
 go_enter Tryz.func121, Tryz.ntmps121
 go_wp2_with fail
 clear hmk
 obtain ⟨ga, hga⟩ : ∃ ga, ga = w.heap.size := ⟨_, rfl⟩
 rw [← hga] at HR ⊢
 have HGa := hid hga
 have HNe := hid (show some ga ≠ some g from fun e => by have := Option.some.inj e; have h1 := HGl.out; have h2 := HGa.out; omega)
 generalize World.alloc _ _ = W0 at HR HG HL0 ⊢
 clear hga
 go_loopw [15] (fun i wr => ∃ k : Nat, k ≤ n1 ∧ i = .int .i64 k ∧ Row wr ga n1 (upTo m.P1 k) ∧ Ln wr g (m.eL k) ∧ w.grownBy wr (some g)) (fun i _ => n1 - (intOf i).toNat)
 case atStart => exact ⟨0, by omega, rfl, HR.out, HL0.out, HG.out⟩
 case round =>
  obtain ⟨k, hk, rfl, hrow, hln, hgr⟩ := hrel
  have HRow := hid hrow
  have HLi := hid hln
  have HGr := hid hgr
  clear hrow hln hgr HR HG HL0
  by_cases hlt : k < n1
  ·have hkl : k < m.segs.length := by rw [← HLn.out]; exact hlt
   obtain ⟨b, off, rfl, hb⟩ := HZ.out.pos (by omega)
   obtain ⟨Ak, nk, ck, -, hcell, gk⟩ := HZ.out.at hkl
   have hse : m.segs[k] = m.sg k := by unfold Md.sg; rw [List.getD_eq_getElem?_getD, List.getElem?_eq_getElem hkl]; rfl
   rw [hse] at hcell
   have hbel : Below B w wr := below_by HGr.out (by have := HB.out; have := HGl.out; omega) HB.out
   have hcell' : ∀ i v, (sgC (m.sg k) (.slice Ak nk ck))[i]? = some v → wr.cell? ⟨b, off + k * 10 + i, none⟩ = some v := fun i v hv => (hbel.cell hb).trans (hcell i v hv)
   have HA := hid (fun w' (hg : Grow wr w') => add_any g (m.eL k) (m.sg k).vaddr (m.sg k).align (m.sg k).pl.size w' (Blk.grow HLi.out hg) (HLe.out k) (HPl.out k hlt).align (HPl.out k hlt).ones (HPl.out k hlt).size)
   have HAt := hid (m.add1 k)
   have HSk := hid (upTo_skip m k)
   have HEs : Hid ((m.sg k).typ ≠ 1 → m.eL (k + 1) = m.eL k) := hid fun h => by rw [Md.eL, if_neg h]
   unfold sgC at hcell'
   clear hse hcell gk hbel hkl
   generalize m.sg k = s at hcell' HA HAt HSk HEs
   have t0 : wr.cell? ⟨b, off + k * 10, none⟩ = _ := hcell' 0 _ rfl
   have t1 := hcell' 1 _ rfl
   have t2 := hcell' 2 _ rfl
   have t3 := hcell' 3 _ rfl
   have t4 := hcell' 4 _ rfl
   have t5 := hcell' 5 _ rfl
   have t6 := hcell' 6 _ rfl
   have t7 := hcell' 7 _ rfl
   have t8 := hcell' 8 _ rfl
   have t9 := hcell' 9 _ rfl
   clear hcell'
   by_cases ht : s.typ = 1
   ·obtain ⟨a1, a2⟩ := HAt.out ht
    rw [a1, a2] at HA
    have d : ((s.typ : Int) == 1) = true := by simp [ht]
    clear ht a1 a2
    go_wp2_with fail
    generalize hW : World.alloc _ _ = W1
    obtain ⟨b5, hg5⟩ := blk1 hW
    clear hW t0 t1 t2 t3 t4 t5 t6 t7 t8 t9 b5 d
    have HG5 := hid hg5
    clear hg5
    refine (HA.out _ HG5.out).mono ?_
    rintro en w2 ⟨rfl, hl2, hg2⟩
    have HGr2 := hid (grown_trans HGr.out (grown_trans (grown_grow HG5.out (some g)) hg2))
    have HRow2 := hid (HRow.out.grownBy (grown_trans (grown_grow HG5.out (some g)) hg2) HNe.out)
    have HL2 := hid hl2
    have hc2 := World.rowIs.cell HRow2.out hlt
    have hf2 := World.rowIs.frozen HRow2.out k
    clear hl2 hg2 HA HGr HG5 HRow HLi
    have HRow3 := hid HRow2.out.put
    have HGr3 := hid (grown_own HGr2.out (Nat.le_of_eq HGa.out.symm) k (.int .u64 (m.P1 k : Nat)))
    have HL3 : Hid (Ln (w2.setCell ⟨ga, k, none⟩ (.int .u64 (m.P1 k : Nat))) g (m.eL (k + 1))) := hid (Blk.cellset HL2.out (fun e => HNe.out (by simp [e])) _)
    generalize m.P1 k = R at HRow3 HGr3 HL3 ⊢
    go_wp2
    go_roundw
    case rel => exact ⟨k + 1, by omega, by go_num, HRow3.out, HL3.out, HGr3.out⟩
    case measure => simp [intOf]; omega
   ·have d : ((s.typ : Int) == 1) = false := by simp; omega
    have HSk1 := hid (HSk.out ht)
    have HEs1 := hid (HEs.out ht)
    clear ht HSk HEs
    go_wp2
    go_roundw
    case rel =>
     generalize hW : World.alloc _ _ = W1
     have hg5 := (blk1 hW).2
     exact ⟨k + 1, by omega, by go_num, by rw [HSk1.out]; exact HRow.out.grownBy (grown_grow hg5 (some g)) HNe.out, by rw [HEs1.out]; exact Blk.grow HLi.out hg5, grown_trans HGr.out (grown_grow hg5 (some g))⟩
    case measure => simp [intOf]; omega
  ·have hkn : k = n1 := by omega
   subst hkn
   have HM0 : Hid (Row wr ga k (mixP m 0)) := hid (by rw [mix_zero]; exact upTo_all HRow.out)
   have HL1 : Hid (Ln wr g (m.eO 0)) := hid (by rw [HOe.out]; exact HLi.out)
   clear hk hlt HRow HLi
   go_wp2_with fail
   generalize wr = wz at HM0 HL1 HGr ⊢
   go_loopw [38] (fun i wr => ∃ q : Nat, q ≤ k ∧ i = .int .i64 q ∧ Row wr ga k (mixP m q) ∧ Ln wr g (m.eO q) ∧ w.grownBy wr (some g)) (fun i _ => k - (intOf i).toNat)
   case atStart => exact ⟨0, by omega, rfl, HM0.out, HL1.out, HGr.out⟩
   case round =>
    obtain ⟨q, hk, rfl, hrow, hln, hgr⟩ := hrel
    have HRow := hid hrow
    have HLi := hid hln
    clear HGr
    have HGr := hid hgr
    clear hrow hln hgr HM0 HL1
    by_cases hlt : q < k
    ·have hkl : q < m.segs.length := by rw [← HLn.out]; exact hlt
     obtain ⟨b, off, rfl, hb⟩ := HZ.out.pos (by omega)
     obtain ⟨Ak, nk, ck, -, hcell, gk⟩ := HZ.out.at hkl
     have hse : m.segs[q] = m.sg q := by unfold Md.sg; rw [List.getD_eq_getElem?_getD, List.getElem?_eq_getElem hkl]; rfl
     rw [hse] at hcell
     have hbel : Below B w wr := below_by HGr.out (by have := HB.out; have := HGl.out; omega) HB.out
     have hcell' : ∀ i v, (sgC (m.sg q) (.slice Ak nk ck))[i]? = some v → wr.cell? ⟨b, off + q * 10 + i, none⟩ = some v := fun i v hv => (hbel.cell hb).trans (hcell i v hv)
     have HA := hid (fun (ht : (m.sg q).typ ≠ 1) w' (hg : Grow wr w') => place_any g (m.eO q) ga k (mixP m q) (m.sg q).pl (.slice Ak nk ck) (m.P2 q) (m.eO (q + 1)) w' (Blk.grow HLi.out hg) (HLo.out q) (HRow.out.grownBy (grown_grow hg (some g)) HNe.out) (m.plc2 k q (HPl.out q hlt) ht) (HPl.out q hlt).size HN1.out)
     have HSk := hid (mix_keep m q)
     have HEs : Hid ((m.sg q).typ = 1 → m.eO (q + 1) = m.eO q) := hid fun h => by rw [Md.eO, if_pos h]
     unfold sgC at hcell'
     unfold plC at HA
     clear hse hcell gk hbel hkl
     generalize m.sg q = s at hcell' HA HSk HEs
     have t0 : wr.cell? ⟨b, off + q * 10, none⟩ = _ := hcell' 0 _ rfl
     have t1 := hcell' 1 _ rfl
     have t2 := hcell' 2 _ rfl
     have t3 := hcell' 3 _ rfl
     have t4 := hcell' 4 _ rfl
     have t5 := hcell' 5 _ rfl
     have t6 := hcell' 6 _ rfl
     have t7 := hcell' 7 _ rfl
     have t8 := hcell' 8 _ rfl
     have t9 := hcell' 9 _ rfl
     clear hcell'
     by_cases ht : s.typ = 1
     ·have d : ((s.typ : Int) != 1) = false := by simp [ht]
      have HSk1 := hid (HSk.out ht)
      have HEs1 := hid (HEs.out ht)
      clear ht HSk HEs
      go_wp2
      go_roundw
      case rel =>
       generalize hW : World.alloc _ _ = W1
       have hg5 := (blk1 hW).2
       exact ⟨q + 1, by omega, by go_num, by rw [HSk1.out]; exact HRow.out.grownBy (grown_grow hg5 (some g)) HNe.out, by rw [HEs1.out]; exact Blk.grow HLi.out hg5, grown_trans HGr.out (grown_grow hg5 (some g))⟩
      case measure => simp [intOf]; omega
     ·have d : ((s.typ : Int) != 1) = true := by simp; omega
      have HA := hid (HA.out ht)
      clear ht
      go_wp2_with fail
      generalize hW : World.alloc _ _ = W1
      obtain ⟨b5, hg5⟩ := blk1 hW
      clear hW t0 t1 t2 t3 t4 t5 t6 t7 t8 t9 d
      have HG5 := hid hg5
      have r6 := b5.at 6
      have r7 := b5.at 7
      have r8 := b5.at 8
      have r9 := b5.at 9
      clear b5 hg5
      go_wp2_with fail
      clear r6 r7 r8 r9
      refine (HA.out _ HG5.out).mono ?_
      rintro en w2 ⟨rfl, hl2, hg2⟩
      have HGr2 := hid (grown_trans HGr.out (grown_trans (grown_grow HG5.out (some g)) hg2))
      have HRow2 := hid (HRow.out.grownBy (grown_trans (grown_grow HG5.out (some g)) hg2) HNe.out)
      have HL2 := hid hl2
      have hc2 := World.rowIs.cell HRow2.out hlt
      have hf2 := World.rowIs.frozen HRow2.out q
      clear hl2 hg2 HA HGr HG5 HRow HLi
      have HRow3 : Hid (Row (w2.setCell ⟨ga, q, none⟩ (.int .u64 (m.P2 q : Nat))) ga k (mixP m (q + 1))) := hid ((World.rowIs.set HRow2.out q _).congr fun j _ => mix_set m q j)
      have HGr3 := hid (grown_own HGr2.out (Nat.le_of_eq HGa.out.symm) q (.int .u64 (m.P2 q : Nat)))
      have HL3 : Hid (Ln (w2.setCell ⟨ga, q, none⟩ (.int .u64 (m.P2 q : Nat))) g (m.eO (q + 1))) := hid (Blk.cellset HL2.out (fun e => HNe.out (by simp [e])) _)
      generalize m.P2 q = R at HRow3 HGr3 HL3 ⊢
      go_wp2
      go_roundw
      case rel => exact ⟨q + 1, by omega, by go_num, HRow3.out, HL3.out, HGr3.out⟩
      case measure => simp [intOf]; omega
    ·have hkn : q = k := by omega
     subst hkn
     have HF := hid (mix_all HRow.out)
     go_wp2
     go_ret
     exact ⟨ga, rfl, Nat.le_of_eq HGa.out.symm, HF.out, HLi.out, HGr.out⟩
end Go.Proofs.YtfbimboemahhhaaGreatDoor
