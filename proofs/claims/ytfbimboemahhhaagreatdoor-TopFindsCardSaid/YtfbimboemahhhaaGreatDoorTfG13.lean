/-
  Several texts in one: What is told of any bytes as a header, in plain words; What was put is got, in plain words; Plain answers of layer 5, and the contracts of prog; The contract of prog; Plain answers of layer 6, and the contracts of sect.
-/
import Derived.Test.YtfbimboemahhhaaGreatDoorTfG12
import Derived.Test.YtfbimboemahhhaaGreatDoorRows
import Derived.Test.YtfbimboemahhhaaGreatDoorTfG2
import Derived.Test.YtfbimboemahhhaaGreatDoorTfG4
import Derived.WalkKit
import Derived.Laws.ResultCell
import Derived.Lib.Hide
import Derived.Test.YtfbimboemahhhaaGreatDoorTfG7
namespace Go.Proofs.YtfbimboemahhhaaGreatDoor
open Go.Lib (hid)
open Go.RowKit
set_option maxRecDepth 100000
def lWide (l : List UInt8) : Bool := l.getD 4 0 == 2
def lBig (l : List UInt8) : Bool := l.getD 5 0 == 2
def hdX (l : List UInt8) : List Nat := nums l (lBig l) 16 (hRow (lWide l))
def hdOf (l : List UInt8) : Hd := ⟨lWide l, lBig l, l.getD 7 0, l.getD 8 0, (hdX l).getD 0 0, (hdX l).getD 1 0, (hdX l).getD 3 0, (hdX l).getD 4 0, (hdX l).getD 5 0, (hdX l).getD 6 0, (hdX l).getD 9 0, (hdX l).getD 11 0, (hdX l).getD 12 0⟩
def HBad (l : List UInt8) (k : Nat) : Prop := (hdX l).getD k 0 ≠ (hdOf l).N.getD k 0 ∧ mayAny k (hdOf l).pn (hdOf l).sh = false
def hdTold (l : List UInt8) (c p : Nat) : Prop :=
 (l.length < hSize (lWide l) ∧ c = 2 ∧ p = l.length) ∨ (hSize (lWide l) ≤ l.length ∧ (∀ j, j < 13 → ¬ HBad l j) ∧ c = 0 ∧ p = 0) ∨
 (hSize (lWide l) ≤ l.length ∧ c = 4 ∧ ∃ k, k < 13 ∧ (∀ j, j < k → ¬ HBad l j) ∧ HBad l k ∧ p = 16 + sumN ((hRow (lWide l)).take k))
def HTold (l : List UInt8) (c p : Nat) (v : Value) : Prop :=
 (c ≠ 0 ∧ Told l c p ∧ v = hd0.V) ∨ (Told l 0 0 ∧ hdTold l c p ∧ v = if c = 0 then (hdOf l).V else hd0.V)
theorem hdTold.one {l : List UInt8} {c p c' p' : Nat} (h : hdTold l c p) (h' : hdTold l c' p') : c = c' ∧ p = p' := by
 rcases h with ⟨h1, rfl, rfl⟩ | ⟨h1, h2, rfl, rfl⟩ | ⟨h1, rfl, k, hk, h2, h3, rfl⟩ <;> rcases h' with ⟨g1, rfl, rfl⟩ | ⟨g1, g2, rfl, rfl⟩ | ⟨g1, rfl, k', hk', g2, g3, rfl⟩
 ·exact ⟨rfl, rfl⟩
 ·omega
 ·omega
 ·omega
 ·exact ⟨rfl, rfl⟩
 ·exact absurd g3 (h2 _ hk')
 ·omega
 ·exact absurd h3 (g2 _ hk)
 ·refine ⟨rfl, ?_⟩
  rcases Nat.lt_trichotomy k k' with e | e | e
  ·exact absurd h3 (g2 _ e)
  ·rw [e]
  ·exact absurd g3 (h2 _ e)
theorem HTold.one {l : List UInt8} {c p c' p' : Nat} {v v' : Value} (h : HTold l c p v) (h' : HTold l c' p' v') : c = c' ∧ p = p' ∧ v = v' := by
 rcases h with ⟨h1, h2, rfl⟩ | ⟨h1, h2, rfl⟩ <;> rcases h' with ⟨g1, g2, rfl⟩ | ⟨g1, g2, rfl⟩
 ·obtain ⟨rfl, rfl⟩ := h2.one g2
  exact ⟨rfl, rfl, rfl⟩
 ·exact absurd (h2.one g1).1 h1
 ·exact absurd (g2.one h1).1 g1
 ·obtain ⟨rfl, rfl⟩ := h2.one g2
  exact ⟨rfl, rfl, rfl⟩
theorem hdX_len (l : List UInt8) : (hdX l).length = 13 := length_nums _ _ _ _
theorem hdX_lt (l : List UInt8) (k : Nat) (h : k < 13) : (hdX l).getD k 0 < 256 ^ ((hRow (lWide l)).getD k 0) := by
 have h1 : k < (nums l (lBig l) 16 (hRow (lWide l))).length := by rw [length_nums]; exact h
 have := nums_lt l (lBig l) (hRow (lWide l)) 16 k h1
 rw [hdX, List.getD_eq_getElem?_getD, List.getElem?_eq_getElem h1]
 exact this
theorem hdX_64 (l : List UInt8) (k : Nat) : (hdX l).getD k 0 < 18446744073709551616 := by
 by_cases hk : k < 13
 ·have h := hdX_lt l k hk
  match k, hk with
  | 0, _ => exact Nat.lt_of_lt_of_le h (show 256 ^ 2 ≤ 18446744073709551616 by decide)
  | 1, _ => exact Nat.lt_of_lt_of_le h (show 256 ^ 2 ≤ 18446744073709551616 by decide)
  | 2, _ => exact Nat.lt_of_lt_of_le h (show 256 ^ 4 ≤ 18446744073709551616 by decide)
  | 3, _ => exact byWide_pow _ _ h
  | 4, _ => exact byWide_pow _ _ h
  | 5, _ => exact byWide_pow _ _ h
  | 6, _ => exact Nat.lt_of_lt_of_le h (show 256 ^ 4 ≤ 18446744073709551616 by decide)
  | 7, _ => exact Nat.lt_of_lt_of_le h (show 256 ^ 2 ≤ 18446744073709551616 by decide)
  | 8, _ => exact Nat.lt_of_lt_of_le h (show 256 ^ 2 ≤ 18446744073709551616 by decide)
  | 9, _ => exact Nat.lt_of_lt_of_le h (show 256 ^ 2 ≤ 18446744073709551616 by decide)
  | 10, _ => exact Nat.lt_of_lt_of_le h (show 256 ^ 2 ≤ 18446744073709551616 by decide)
  | 11, _ => exact Nat.lt_of_lt_of_le h (show 256 ^ 2 ≤ 18446744073709551616 by decide)
  | 12, _ => exact Nat.lt_of_lt_of_le h (show 256 ^ 2 ≤ 18446744073709551616 by decide)
 ·rw [List.getD_eq_getElem?_getD, List.getElem?_eq_none (by rw [hdX_len]; omega)]
  decide
theorem hdOf_ok (l : List UInt8) : (hdOf l).Ok :=
 ⟨hdX_lt l 0 (by decide), hdX_lt l 1 (by decide), hdX_64 l 3, hdX_64 l 4, hdX_64 l 5, hdX_lt l 6 (by decide), hdX_lt l 9 (by decide), hdX_lt l 11 (by decide), hdX_lt l 12 (by decide)⟩
theorem hdOf_eq {l : List UInt8} {x0 x1 x2 x3 x4 x5 x6 x7 x8 x9 x10 x11 x12 : Nat} (h : hdX l = [x0, x1, x2, x3, x4, x5, x6, x7, x8, x9, x10, x11, x12]) :
  hdOf l = ⟨lWide l, lBig l, l.getD 7 0, l.getD 8 0, x0, x1, x3, x4, x5, x6, x9, x11, x12⟩ := by
 unfold hdOf; rw [h]; rfl
theorem idOf_zero (l : List UInt8) : idOf l 0 = idV (lWide l) (lBig l) (l.getD 7 0) (l.getD 8 0) := by rw [idOf, if_pos rfl]; rfl
theorem idOf_bad (l : List UInt8) {c : Nat} (h : c ≠ 0) : idOf l c = idV false false 0 0 := by rw [idOf, if_neg h]
theorem Hd.lenL (h : Hd) : h.L.length = hSize h.wide := by
 rw [Hd.L, List.length_append, length_rowB, ← sum_hRow h.wide]
 rfl
theorem wide_idL (wide big : Bool) (o a : UInt8) (r : List UInt8) : lWide (idL wide big o a ++ r) = wide := by cases wide <;> rfl
theorem big_idL (wide big : Bool) (o a : UInt8) (r : List UInt8) : lBig (idL wide big o a ++ r) = big := by cases big <;> rfl
theorem clean_idL (wide big : Bool) (o a : UInt8) (r : List UInt8) : Clean (idL wide big o a ++ r) 7 := clean_of fun j hj hlt => by
 rw [List.getElem_append_left (by simp [idL]; omega), List.getD_eq_getElem?_getD, List.getElem?_eq_getElem (by simp [idL]; omega)]
 rfl
theorem hdX_put (h : Hd) (hf : rowF h.Q = true) (r : List UInt8) : hdX (h.L ++ r) = h.N := by
 have e := nums_rowB h.big r h.Q (idL h.wide h.big h.o h.a) hf
 unfold hdX
 rw [Hd.L, List.append_assoc, wide_idL, big_idL, ← List.append_assoc]
 exact e
theorem hdOf_put (h : Hd) (hf : rowF h.Q = true) (r : List UInt8) : hdOf (h.L ++ r) = h := by
 have e := hdX_put h hf r
 unfold hdOf
 rw [e, Hd.L, List.append_assoc, wide_idL, big_idL]
 rfl
theorem put_told (h : Hd) (hf : rowF h.Q = true) (r : List UInt8) : HTold (h.L ++ r) 0 0 h.V := by
 have e1 := hdX_put h hf r
 have e2 := hdOf_put h hf r
 have hl := h.lenL
 have hs : lWide (h.L ++ r) = h.wide := by rw [Hd.L, List.append_assoc, wide_idL]
 have h16 : 16 ≤ hSize h.wide := by cases h.wide <;> decide
 have ht : Told (h.L ++ r) 0 0 := .inl ⟨rfl, rfl, by rw [Hd.L, List.append_assoc]; exact clean_idL _ _ _ _ _, by rw [List.length_append]; omega⟩
 refine .inr ⟨ht, .inr (.inl ⟨by rw [hs, List.length_append]; omega, fun j _ hb => ?_, rfl, rfl⟩), by rw [e2]; rfl⟩
 unfold HBad at hb
 rw [e1, e2] at hb
 exact hb.1 rfl
structure Pg where
 ty : Nat
 fl : Nat
 off : Nat
 va : Nat
 pa : Nat
 fs : Nat
 ms : Nat
 al : Nat
structure Pg.Ok (p : Pg) : Prop where
 ty : p.ty < 4294967296
 fl : p.fl < 4294967296
 off : p.off < 18446744073709551616
 va : p.va < 18446744073709551616
 pa : p.pa < 18446744073709551616
 fs : p.fs < 18446744073709551616
 ms : p.ms < 18446744073709551616
 al : p.al < 18446744073709551616
def Pg.C (p : Pg) : Array Value := #[.int .u32 (p.ty : Int), .int .u32 (p.fl : Int), .int .u64 (p.off : Int), .int .u64 (p.va : Int), .int .u64 (p.pa : Int), .int .u64 (p.fs : Int), .int .u64 (p.ms : Int), .int .u64 (p.al : Int)]
def Pg.V (p : Pg) : Value := .agg p.C
def pg0 : Pg := ⟨0, 0, 0, 0, 0, 0, 0, 0⟩
def Pg.N (p : Pg) : List Nat := [p.ty, p.fl, p.off, p.va, p.pa, p.fs, p.ms, p.al]
def pSize (wide : Bool) : Nat := byWide wide 32 56
def pOrd (wide : Bool) : List Nat := if wide then [0, 1, 2, 3, 4, 5, 6, 7] else [0, 2, 3, 4, 5, 6, 1, 7]
def pWid (wide : Bool) (i : Nat) : Nat := if wide && ((i : Int) != 0) && ((i : Int) != 1) then 8 else 4
def pRow (wide : Bool) : List Nat := (pOrd wide).map (pWid wide)
theorem Pg.one (p : Pg) : p.C.all (·.oneCell') = true := by simp [Pg.C, Value.oneCell']
theorem len_pOrd (wide : Bool) : (pOrd wide).length = 8 := by cases wide <;> rfl
theorem len_pRow (wide : Bool) : (pRow wide).length = 8 := by cases wide <;> rfl
theorem sum_pRow (wide : Bool) : sumN (pRow wide) = pSize wide := by cases wide <;> rfl
theorem pOrd_lt (wide : Bool) (k : Nat) (h : k < 8) : (pOrd wide).getD k 0 < 8 := by
 cases wide <;> (match k, h with
  | 0, _ => decide
  | 1, _ => decide
  | 2, _ => decide
  | 3, _ => decide
  | 4, _ => decide
  | 5, _ => decide
  | 6, _ => decide
  | 7, _ => decide)
theorem pWid_wid (wide : Bool) (i : Nat) : wid (pWid wide i : Nat) = true := by
 unfold pWid
 split <;> rfl
theorem pSize_any (wide big : Bool) (w : World) : Calls Tryz.prog 79 #[.agg #[.bool wide, .bool big]] w fun e w' => e = .returned (.int .i64 (pSize wide : Nat)) ∧ Grow w w' := by
 cases wide
 ·go_enter Tryz.func79, Tryz.ntmps79
  go_wp2
  go_ret
  exact ⟨rfl, Grow.of_alloc _ _⟩
 ·go_enter Tryz.func79, Tryz.ntmps79
  go_wp2
  go_ret
  exact ⟨rfl, Grow.of_alloc _ _⟩
theorem pWid_any (wide big : Bool) (i : Nat) (w : World) : Calls Tryz.prog 127 #[.int .i64 i, .agg #[.bool wide, .bool big]] w fun e w' => e = .returned (.int .i64 (pWid wide i : Nat)) ∧ Grow w w' := by
 unfold pWid
 cases wide
 ·go_enter Tryz.func127, Tryz.ntmps127
  go_wp2
  go_ret
  exact ⟨rfl, Grow.of_alloc _ _⟩
 ·cases h0 : ((i : Int) != 0)
  ·go_enter Tryz.func127, Tryz.ntmps127
   go_wp2
   go_ret
   exact ⟨rfl, Grow.of_alloc _ _⟩
  ·cases h1 : ((i : Int) != 1)
   ·go_enter Tryz.func127, Tryz.ntmps127
    go_wp2
    go_ret
    exact ⟨rfl, Grow.of_alloc _ _⟩
   ·go_enter Tryz.func127, Tryz.ntmps127
    go_wp2
    go_ret
    exact ⟨rfl, Grow.of_alloc _ _⟩
theorem pOrd_any (wide big : Bool) (w : World) : Calls Tryz.prog 126 #[.agg #[.bool wide, .bool big]] w fun e w' => e = .returned (.agg (i64s (pOrd wide))) ∧ Grow w w' := by
 cases wide
 ·go_enter Tryz.func126, Tryz.ntmps126
  go_wp2_with (refine wpList_store_row rfl 229 (.tmp 2) (.tmp 6) rfl (w.heap.size + 1) (i64s (pOrd false)) rfl rfl _ _ (blk2 rfl).2.1 (by kernel_rfl) rfl (one_i64s _) ?_)
  refine bodyPost_ret (results_cell_row (cs := i64s (pOrd false)) rfl _ _ (w.heap.size + 1) _ (0, 0) _ rfl ((blk2 rfl).2.1.set _) Tryz.underlying229 rfl (by kernel_rfl)) rfl ?_
  exact ⟨rfl, Grow.set (blk2 rfl).2.2 (Nat.le_succ _) _⟩
 ·go_enter Tryz.func126, Tryz.ntmps126
  go_wp2_with (refine wpList_store_row rfl 229 (.tmp 2) (.tmp 5) rfl (w.heap.size + 1) (i64s (pOrd true)) rfl rfl _ _ (blk2 rfl).2.1 (by kernel_rfl) rfl (one_i64s _) ?_)
  refine bodyPost_ret (results_cell_row (cs := i64s (pOrd true)) rfl _ _ (w.heap.size + 1) _ (0, 0) _ rfl ((blk2 rfl).2.1.set _) Tryz.underlying229 rfl (by kernel_rfl)) rfl ?_
  exact ⟨rfl, Grow.set (blk2 rfl).2.2 (Nat.le_succ _) _⟩
theorem pNum_any (p : Pg) (ok : p.Ok) (w : World) : Calls Tryz.prog 125 #[p.V] w fun e w' => e = .returned (.agg (u64s p.N)) ∧ Grow w w' := by
 obtain ⟨ty, fl, off, va, pa, fs, ms, al⟩ := p
 obtain ⟨k1, k2, k3, k4, k5, k6, k7, k8⟩ := ok
 unfold Pg.V Pg.C
 simp only [] at *
 have z1 : IntKind.u64.wrap (ty : Int) = (ty : Int) := by rw [IntKind.wrap_u64]; omega
 have z2 : IntKind.u64.wrap (fl : Int) = (fl : Int) := by rw [IntKind.wrap_u64]; omega
 clear k1 k2 k3 k4 k5 k6 k7 k8
 go_enter Tryz.func125, Tryz.ntmps125
 go_wp2_with (refine wpList_store_row rfl 227 (.tmp 2) (.tmp 21) rfl (w.heap.size + 1) (u64s (Pg.N ⟨ty, fl, off, va, pa, fs, ms, al⟩)) rfl rfl _ _ (blk2 rfl).2.1 (by kernel_rfl) rfl (one_u64s _) ?_)
 refine bodyPost_ret (results_cell_row (cs := u64s (Pg.N ⟨ty, fl, off, va, pa, fs, ms, al⟩)) rfl _ _ (w.heap.size + 1) _ (0, 0) _ rfl ((blk2 rfl).2.1.set _) Tryz.underlying227 rfl (by kernel_rfl)) rfl ?_
 exact ⟨rfl, Grow.set (blk2 rfl).2.2 (Nat.le_succ _) _⟩
theorem pHdr_any (x0 x1 x2 x3 x4 x5 x6 x7 : Nat) (w : World) (k0 : x0 < 4294967296) (k1 : x1 < 4294967296) :
  Calls Tryz.prog 134 #[.agg (u64s [x0, x1, x2, x3, x4, x5, x6, x7])] w fun e w' => e = .returned (Pg.V ⟨x0, x1, x2, x3, x4, x5, x6, x7⟩) ∧ Grow w w' := by
 have z0 : IntKind.u32.wrap (x0 : Int) = (x0 : Int) := by rw [IntKind.wrap_u32]; omega
 have z1 : IntKind.u32.wrap (x1 : Int) = (x1 : Int) := by rw [IntKind.wrap_u32]; omega
 clear k0 k1
 unfold u64s
 simp only [List.map_cons, List.map_nil]
 go_enter Tryz.func134, Tryz.ntmps134
 go_wp2_with (refine wpList_store_row rfl 167 (.tmp 2) (.tmp 21) rfl (w.heap.size + 1) (Pg.C ⟨x0, x1, x2, x3, x4, x5, x6, x7⟩) rfl rfl _ _ (blk2 rfl).2.1 (by kernel_rfl) rfl (Pg.one _) ?_)
 refine bodyPost_ret (results_cell_row (cs := Pg.C ⟨x0, x1, x2, x3, x4, x5, x6, x7⟩) rfl _ _ (w.heap.size + 1) _ (0, 0) _ rfl ((blk2 rfl).2.1.set _) Tryz.underlying167 rfl (by kernel_rfl)) rfl ?_
 exact ⟨rfl, Grow.set (blk2 rfl).2.2 (Nat.le_succ _) _⟩
def Pg.Q (p : Pg) (wide : Bool) : List (Nat × Nat) := (pOrd wide).map fun i => (p.N.getD i 0, pWid wide i)
def Pg.L (p : Pg) (wide big : Bool) : List UInt8 := rowB big (p.Q wide)
theorem Pg.lenQ (p : Pg) (wide : Bool) : (p.Q wide).length = 8 := by simp [Pg.Q, len_pOrd]
theorem Pg.lenL (p : Pg) (wide big : Bool) : (p.L wide big).length = pSize wide := by
 rw [Pg.L, length_rowB, ← sum_pRow, pRow, Pg.Q, List.map_map]
 rfl
theorem Pg.atN (p : Pg) (ok : p.Ok) (i : Nat) : p.N.getD i 0 < 18446744073709551616 := by
 obtain ⟨k1, k2, k3, k4, k5, k6, k7, k8⟩ := ok
 match i with
 | 0 => show p.ty < _; omega
 | 1 => show p.fl < _; omega
 | 2 => show p.off < _; omega
 | 3 => show p.va < _; omega
 | 4 => show p.pa < _; omega
 | 5 => show p.fs < _; omega
 | 6 => show p.ms < _; omega
 | 7 => show p.al < _; omega
 | _ + 8 => show 0 < _; omega
theorem Pg.rowed (p : Pg) (ok : p.Ok) (wide : Bool) : Rowed (p.Q wide) :=
 ⟨by rw [p.lenQ]; omega, fun k hk => by simp only [Pg.Q, List.getElem_map]; exact pWid_wid _ _, fun k hk => by simp only [Pg.Q, List.getElem_map]; exact p.atN ok _⟩
theorem makeP (wide : Bool) (w : World) : (Instr.makeSlice 29 (.int .i64 0) (.int .i64 (pSize wide : Nat))).run Tryz.prog w = .ok (.slice (some ⟨w.heap.size, 0, none⟩) 0 (pSize wide))
  (w.alloc (.cells (Array.replicate (pSize wide) (.int .u8 0)) 5)) := by cases wide <;> kernel_rfl
def PPut (p : Pg) (wide big : Bool) (w : World) (e : Ending) (w' : World) : Prop :=
 (rowF (p.Q wide) = true ∧ ∃ A c, e = .returned (.tuple #[.slice A (p.L wide big).length c, .nilIface]) ∧ OB w' w.heap.size 5 A (p.L wide big).length c (p.L wide big) ∧ Grow w w') ∨
 (rowF (p.Q wide) = false ∧ e = .returned (.tuple #[.slice none 0 0, .iface 86 (.int .i64 1)]) ∧ Grow w w')
set_option maxHeartbeats 400000 in
theorem pPut_any (p : Pg) (ok : p.Ok) (wide big : Bool) (w : World) : Calls Tryz.prog 76 #[p.V, .agg #[.bool wide, .bool big]] w (PPut p wide big w) := by
 have HR := hid (p.rowed ok wide)
 have HN := hid (fun w => pNum_any p ok w)
 have HSz := hid (fun w => pSize_any wide big w)
 have HOr := hid (fun w => pOrd_any wide big w)
 have HWi := hid (fun i w => pWid_any wide big i w)
 have HSN : Hid ((u64s p.N).size = 8) := hid rfl
 have HON := hid (one_u64s p.N)
 have HLQ := hid (p.lenQ wide)
 have HMk := hid (makeP wide)
 have HSp : Hid (pSize wide ≤ 56) := by cases wide <;> exact hid (by decide)
 have HAO : Hid (∀ k, k < 8 → (i64s (pOrd wide))[k]? = some (.int .i64 ((pOrd wide).getD k 0 : Nat))) := hid (fun k hk => idx_i64s _ _ (by rw [len_pOrd]; exact hk))
 have HOl := hid (pOrd_lt wide)
 have HAN : Hid (∀ i, i < 8 → (u64s p.N)[i]? = some (.int .u64 (p.N.getD i 0 : Nat))) := hid (fun i hi => idx_u64s _ _ hi)
 have HAQ : Hid (∀ k (h : k < (p.Q wide).length), (p.Q wide)[k].1 = p.N.getD ((pOrd wide).getD k 0) 0 ∧ (p.Q wide)[k].2 = pWid wide ((pOrd wide).getD k 0)) := hid (fun k h => by
  have hk : k < (pOrd wide).length := by rw [p.lenQ] at h; rw [len_pOrd]; exact h
  simp only [Pg.Q, List.getElem_map]
  rw [List.getD_eq_getElem?_getD (l := pOrd wide), List.getElem?_eq_getElem hk]
  exact ⟨rfl, rfl⟩)
 have HC1 : Hid (p.C.size = 8) := hid rfl
 unfold PPut Pg.L
 unfold Pg.V
 generalize p.Q wide = q at HR HLQ HAQ ⊢
 generalize u64s p.N = RN at HN HSN HON HAN
 generalize i64s (pOrd wide) = RO at HOr HAO
 generalize pOrd wide = os at HAO HOl HAQ
 generalize p.N = pn at HAN HAQ
 unfold Pg.V at HN
 generalize p.C = C at HN HC1 ⊢
 generalize pSize wide = sz at HSz HMk HSp
 go_enter Tryz.func76, Tryz.ntmps76
 go_wp2_with (refine wpList_load_row rfl 167 (.tmp 2) rfl w.heap.size rfl _ C (0, 0) _ (blk2 rfl).1 Tryz.underlying167 rfl (by rw [HC1.out]; kernel_rfl) ?_)
 generalize hW : World.alloc _ _ = W0
 obtain ⟨b1, bf, hg0⟩ := blk2 hW
 clear hW b1
 refine (HN.out W0).mono ?_
 rintro e w1 ⟨rfl, hg1⟩
 have HBF1 := hid (bf.grow hg1)
 have HG1 : Hid (Grow w w1) := hg0.trans hg1
 clear bf hg0 hg1
 obtain ⟨y0, y1⟩ := (HBF1.out.alloc (.cells RN 227)).c2
 go_wp2_with (refine wpList_store_row rfl 227 (.tmp 6) (.tmp 12) rfl w1.heap.size RN rfl rfl _ _ (Blk.new _ _ _) (by rw [HSN.out]; kernel_rfl) (by rw [HSN.out]; rfl) HON.out ?_; rw [World.setRow_alloc_new])
 clear y0 y1
 refine (HSz.out _).mono ?_
 rintro e w2 ⟨rfl, hg2⟩
 have HBN := hid ((Blk.new w1 227 RN).grow hg2)
 have HBF2 := hid ((HBF1.out.alloc _).grow hg2)
 have HG2 : Hid (Grow w w2) := (HG1.out.trans (Grow.of_alloc _ _)).trans hg2
 have HG6 : Hid (w.heap.size + 1 < w1.heap.size) := HBF1.out.lt
 generalize w1.heap.size = g6 at HBN HG6 ⊢
 clear hg2 HG1 HBF1
 have hmk := HMk.out w2
 obtain ⟨y0, y1⟩ := (HBF2.out.alloc (.cells (Array.replicate sz (.int .u8 0)) 5)).c2
 go_wp2_with fail
 clear y0 y1 hmk HMk
 refine (HOr.out _).mono ?_
 rintro e w3 ⟨rfl, hg3⟩
 have HO3 := hid ((OB.room w2 w.heap.size 5 sz (.int .u8 0) (by have := HSp.out; unfold maxLen; omega) HG2.out.size).keep hg3)
 have HBN3 := hid ((HBN.out.alloc _).grow hg3)
 have HBF3 := hid ((HBF2.out.alloc _).grow hg3)
 have HG3 : Hid (Grow w w3) := (HG2.out.trans (Grow.of_alloc _ _)).trans hg3
 have HD : Hid (w2.heap.size ≠ w.heap.size + 1) := by have := HBF2.out.lt; exact hid (by omega)
 have HD6 : Hid (w2.heap.size ≠ g6) := by have := HBN.out.lt; exact hid (by omega)
 generalize w2.heap.size = g7 at HO3 HD HD6 ⊢
 clear hg3 HG2 HBN HBF2
 go_wp2_with fail
 go_loopw [7, 18] (fun x i wr => ∃ (k : Nat) (A : Option Addr) (c : Nat), k ≤ 8 ∧ i = .int .i64 k ∧ x = .slice A (rowB big (q.take k)).length c ∧ OB wr w.heap.size 5 A (rowB big (q.take k)).length c (rowB big (q.take k)) ∧
  own A ≠ some (w.heap.size + 1) ∧ own A ≠ some g6 ∧ Blk wr (w.heap.size + 1) 23 #[.bool wide, .bool big] ∧ Blk wr g6 227 RN ∧ rowF (q.take k) = true ∧ Grow w wr) (fun _ i _ => 8 - (intOf i).toNat)
 case atStart => exact ⟨0, some ⟨g7, 0, none⟩, sz, by omega, rfl, rfl, HO3.out, fun h => HD.out (by injection h), fun h => HD6.out (by injection h), HBF3.out, HBN3.out, rfl, HG3.out⟩
 case round =>
  obtain ⟨k, A, c, hk, rfl, rfl, ho, hd1, hd2, hbf, hbn, hrf, hg⟩ := hrel
  have HO := hid ho
  have HD1 := hid hd1
  have HD2 := hid hd2
  have HBF := hid hbf
  have HBN2 := hid hbn
  have HRF := hid hrf
  have HG := hid hg
  clear ho hd1 hd2 hbf hbn hrf hg HO3 HBN3 HBF3 HG3
  by_cases hlt : k < 8
  ·have hkq : k < q.length := by rw [HLQ.out]; exact hlt
   have HB := hid (rowB_succ big q k hkq)
   have HF := hid (rowF_succ q k hkq)
   have HW := hid (HR.out.wide k hkq)
   have HZ := hid (fun h => rowF_false hkq h)
   have HLE := hid (rowB_le HR.out big k (by omega))
   have hv := HR.out.lt k hkq
   have hw8 := HR.out.wide8 k hkq
   have HK1 := hid (HAN.out (os.getD k 0) (HOl.out k hlt))
   have HK2 := hid (HAO.out k hlt)
   have ho8 := HOl.out k hlt
   obtain ⟨e1, e2⟩ := HAQ.out k hkq
   rw [HRF.out, Bool.true_and] at HF
   rw [← e1] at HK1
   have HW2 := hid (fun w => HWi.out (os.getD k 0) w)
   rw [← e2] at HW2
   clear e1 e2
   generalize q[k].1 = v at HB HF HZ hv HK1
   generalize q[k].2 = m at HB HF HZ HW hw8 HW2
   generalize os.getD k 0 = i at HK1 HK2 HW2 ho8
   have z1 : (0 : Int) ≤ (i : Int) := by omega
   have z2 : (i : Int) < 8 := by omega
   obtain ⟨y0, y1⟩ := HBF.out.c2
   clear hkq
   go_wp2_with (refine wpList_index rfl 229 3 (.tmp 17) (.tmp 18) rfl 8 _ Tryz.underlying229 Tryz.underlying3 rfl (by kernel_rfl) RO k (.int .i64 (i : Int)) rfl rfl hlt HK2.out ?_)
   clear y0 y1
   refine (HW2.out _).mono ?_
   rintro e w4 ⟨rfl, hg4⟩
   have HO4 := hid (HO.out.keep hg4)
   have HBF4 := hid (HBF.out.grow hg4)
   have HBN4 := hid (HBN2.out.grow hg4)
   have HG4 : Hid (Grow w w4) := HG.out.trans hg4
   clear hg4 HO HBF HBN2 HG
   have y1 : w4.cell? ⟨g6, i, none⟩ = some (.int .u64 (v : Int)) := (HBN4.out.at i).trans HK1.out
   go_wp2_with fail
   refine (fits_any v m _ (by omega) (by omega)).mono ?_
   rintro e w5 ⟨rfl, rfl⟩
   rw [fits_row v m HW.out]
   cases hfit : decide (v < 256 ^ m)
   ·have HZ2 := hid (HZ.out hfit)
    clear hfit
    go_wp2
    go_ret2
    exact .inr ⟨HZ2.out, rfl, HG4.out⟩
   ·rw [hfit] at HF
    clear hfit HZ
    go_wp2_with fail
    clear y1
    refine wp_region_leap (leap_kept (fun j => j = w.heap.size + 1 ∨ j = g6)) [(0, true), (1, true), (2, true), (3, true), (4, true), (5, true), (6, true), (7, false), (8, false), (9, true)] (by kernel_rfl) (by kernel_rfl) (by kernel_rfl) ?_
    have HX : Hid (∀ W, Kept (fun j => j = w.heap.size + 1 ∨ j = g6) w4.drew W → (_ ∧ _) ∧ W.cell? ⟨g6, i, none⟩ = some (.int .u64 (v : Int))) := fun W hW =>
     ⟨(HBF4.out.drew.kept hW (.inl rfl)).c2, ((HBN4.out.drew.kept hW (.inr rfl)).at i).trans HK1.out⟩
    have HO1 : Hid (OB w4.drew _ _ _ _ _ _) := HO4.out
    have HBF1 := hid HBF4.out.drew
    have HBN1 := hid HBN4.out.drew
    have HG1 : Hid (Grow w w4.drew) := HG4.out.trans (Grow.of_drew _)
    generalize w4.drew = w6 at HX HO1 HBF1 HBN1 HG1 ⊢
    clear HO4 HBF4 HBN4 HG4
    repeat (refine chain_take rfl (by rfl) ?_ (fun W hG => ?_) ?_; rotate_left; (obtain ⟨⟨q1, q2⟩, q3⟩ := HX.out W hG; go_simp; rfl); simp only [Act.put, List.setIfInBounds_toArray, List.set_cons_zero, List.set_cons_succ])
    clear HX
    refine chain_only rfl (by rfl) (fun K hK => ?_)
    go_simp
    refine (put_wide v m big _ HW.out (by omega)).mono ?_
    rintro e w7 ⟨A3, c3, rfl, ho3, hb3⟩
    refine hK _ _ (Kept.of_grow hb3) ?_
    clear hK K
    have HO3 := hid ho3
    have HO4 := hid (HO1.out.keep hb3)
    have HBF7 := hid (HBF1.out.grow hb3)
    have HBN7 := hid (HBN1.out.grow hb3)
    have HG7 : Hid (Grow w w7) := HG1.out.trans hb3
    clear ho3 hb3 HO1 HBF1 HBN1 HG1
    rw [Int.toNat_natCast] at HO3
    refine chain_only rfl (by rfl) (fun K hK => ?_)
    refine wp_appendS w7 (.tmp 31) (.tmp 38) 29 rfl w.heap.size 5 Tryz.underlying29 (by kernel_rfl) A _ c _ rfl HO4.out w7.heap.size A3 m c3 _ rfl HO3.out.rb (by have := HLE.out; omega) HG7.out.size ?_
    intro A5 c5 w8 ho5 hb5 hk5 hn5
    have HBF8 : Hid (Blk w8 (w.heap.size + 1) 23 #[.bool wide, .bool big]) := (hk5 _ HBF7.out.lt HD1.out).trans HBF7.out
    have HBN8 : Hid (Blk w8 g6 227 RN) := (hk5 _ HBN7.out.lt HD2.out).trans HBN7.out
    refine hK _ _ ⟨hb5.size, fun j hj hj2 => by
     rcases hj2 with rfl | rfl
     ·exact hk5 _ hj HD1.out
     ·exact hk5 _ hj HD2.out⟩ ?_
    clear hK K
    have HD1' : Hid (own A5 ≠ some (w.heap.size + 1)) := by
     rcases hn5 with e | e
     ·rw [e]; exact HD1
     ·rw [e]; have := HBF7.out.lt; exact fun h => by injection h; omega
    have HD2' : Hid (own A5 ≠ some g6) := by
     rcases hn5 with e | e
     ·rw [e]; exact HD2
     ·rw [e]; have := HBN7.out.lt; exact fun h => by injection h; omega
    have HG8 : Hid (Grow w w8) := HG7.out.trans' hb5
    rw [← HB.out] at ho5
    have hm : (rowB big (q.take k)).length + m = (rowB big (q.take (k + 1))).length := by rw [HB.out, List.length_append, length_putB]
    rw [hm] at ho5 ⊢
    have HO5 := hid ho5
    clear ho5 hb5 hk5 hn5 hm HO3 HO4 HG7 HBF7 HBN7
    repeat (refine chain_take rfl (by rfl) ?_ (fun W hG => ?_) ?_; rotate_left; (go_simp; rfl); simp only [Act.put, List.setIfInBounds_toArray, List.set_cons_zero, List.set_cons_succ])
    refine chain_done ?_
    go_wp2
    go_roundw
    case rel => exact ⟨k + 1, A5, c5, by omega, by go_num, rfl, HO5.out, HD1'.out, HD2'.out, HBF8.out, HBN8.out, HF.out, HG8.out⟩
    case measure => simp [intOf]; omega
  ·have HK : Hid (q.take k = q) := by
    have e : k = q.length := by rw [HLQ.out]; omega
    rw [e]
    exact List.take_length
   rw [HK.out] at HO HRF ⊢
   go_wp2
   go_ret2
   exact .inl ⟨HRF.out, A, c, rfl, HO.out, HG.out⟩
structure Sc where
 na : Nat
 ty : Nat
 fl : Nat
 ad : Nat
 off : Nat
 sz : Nat
 li : Nat
 inf : Nat
 al : Nat
 en : Nat
structure Sc.Ok (p : Sc) : Prop where
 na : p.na < 4294967296
 ty : p.ty < 4294967296
 fl : p.fl < 18446744073709551616
 ad : p.ad < 18446744073709551616
 off : p.off < 18446744073709551616
 sz : p.sz < 18446744073709551616
 li : p.li < 4294967296
 inf : p.inf < 4294967296
 al : p.al < 18446744073709551616
 en : p.en < 18446744073709551616
def Sc.C (p : Sc) : Array Value := #[.int .u32 (p.na : Int), .int .u32 (p.ty : Int), .int .u64 (p.fl : Int), .int .u64 (p.ad : Int), .int .u64 (p.off : Int), .int .u64 (p.sz : Int), .int .u32 (p.li : Int), .int .u32 (p.inf : Int), .int .u64 (p.al : Int), .int .u64 (p.en : Int)]
def Sc.V (p : Sc) : Value := .agg p.C
def sc0 : Sc := ⟨0, 0, 0, 0, 0, 0, 0, 0, 0, 0⟩
def Sc.N (p : Sc) : List Nat := [p.na, p.ty, p.fl, p.ad, p.off, p.sz, p.li, p.inf, p.al, p.en]
def sSize (wide : Bool) : Nat := byWide wide 40 64
def sWid (wide : Bool) (i : Nat) : Nat := if ((i : Int) == 0) || ((i : Int) == 1) || ((i : Int) == 6) || ((i : Int) == 7) then 4 else byWide wide 4 8
def sRow (wide : Bool) : List Nat := [4, 4, byWide wide 4 8, byWide wide 4 8, byWide wide 4 8, byWide wide 4 8, 4, 4, byWide wide 4 8, byWide wide 4 8]
theorem Sc.one (p : Sc) : p.C.all (·.oneCell') = true := by simp [Sc.C, Value.oneCell']
theorem len_sRow (wide : Bool) : (sRow wide).length = 10 := by cases wide <;> rfl
theorem sum_sRow (wide : Bool) : sumN (sRow wide) = sSize wide := by cases wide <;> rfl
theorem sRow_at (wide : Bool) (k : Nat) (h : k < 10) : (sRow wide).getD k 0 = sWid wide k := by
 cases wide <;> (match k, h with
  | 0, _ => rfl
  | 1, _ => rfl
  | 2, _ => rfl
  | 3, _ => rfl
  | 4, _ => rfl
  | 5, _ => rfl
  | 6, _ => rfl
  | 7, _ => rfl
  | 8, _ => rfl
  | 9, _ => rfl)
theorem sWid_wid (wide : Bool) (i : Nat) : wid (sWid wide i : Nat) = true := by
 unfold sWid
 split
 ·rfl
 ·cases wide <;> rfl
theorem sSize_any (wide big : Bool) (w : World) : Calls Tryz.prog 82 #[.agg #[.bool wide, .bool big]] w fun e w' => e = .returned (.int .i64 (sSize wide : Nat)) ∧ Grow w w' := by
 cases wide
 ·go_enter Tryz.func82, Tryz.ntmps82
  go_wp2
  go_ret
  exact ⟨rfl, Grow.of_alloc _ _⟩
 ·go_enter Tryz.func82, Tryz.ntmps82
  go_wp2
  go_ret
  exact ⟨rfl, Grow.of_alloc _ _⟩
theorem sWid_any (wide big : Bool) (i : Nat) (w : World) : Calls Tryz.prog 129 #[.int .i64 i, .agg #[.bool wide, .bool big]] w fun e w' => e = .returned (.int .i64 (sWid wide i : Nat)) ∧ Grow w w' := by
 unfold sWid
 cases h0 : ((i : Int) == 0)
 ·cases h1 : ((i : Int) == 1)
  ·cases h6 : ((i : Int) == 6)
   ·cases h7 : ((i : Int) == 7)
    ·cases wide
     ·go_enter Tryz.func129, Tryz.ntmps129
      go_wp2
      go_ret
      exact ⟨rfl, Grow.of_alloc _ _⟩
     ·go_enter Tryz.func129, Tryz.ntmps129
      go_wp2
      go_ret
      exact ⟨rfl, Grow.of_alloc _ _⟩
    ·go_enter Tryz.func129, Tryz.ntmps129
     go_wp2
     go_ret
     exact ⟨rfl, Grow.of_alloc _ _⟩
   ·go_enter Tryz.func129, Tryz.ntmps129
    go_wp2
    go_ret
    exact ⟨rfl, Grow.of_alloc _ _⟩
  ·go_enter Tryz.func129, Tryz.ntmps129
   go_wp2
   go_ret
   exact ⟨rfl, Grow.of_alloc _ _⟩
 ·go_enter Tryz.func129, Tryz.ntmps129
  go_wp2
  go_ret
  exact ⟨rfl, Grow.of_alloc _ _⟩
theorem sNum_any (p : Sc) (ok : p.Ok) (w : World) : Calls Tryz.prog 128 #[p.V] w fun e w' => e = .returned (.agg (u64s p.N)) ∧ Grow w w' := by
 obtain ⟨na, ty, fl, ad, off, sz, li, inf, al, en⟩ := p
 obtain ⟨k1, k2, k3, k4, k5, k6, k7, k8, k9, k10⟩ := ok
 unfold Sc.V Sc.C
 simp only [] at *
 have z1 : IntKind.u64.wrap (na : Int) = (na : Int) := by rw [IntKind.wrap_u64]; omega
 have z2 : IntKind.u64.wrap (ty : Int) = (ty : Int) := by rw [IntKind.wrap_u64]; omega
 have z3 : IntKind.u64.wrap (li : Int) = (li : Int) := by rw [IntKind.wrap_u64]; omega
 have z4 : IntKind.u64.wrap (inf : Int) = (inf : Int) := by rw [IntKind.wrap_u64]; omega
 clear k1 k2 k3 k4 k5 k6 k7 k8 k9 k10
 go_enter Tryz.func128, Tryz.ntmps128
 go_wp2_with (refine wpList_store_row rfl 231 (.tmp 2) (.tmp 27) rfl (w.heap.size + 1) (u64s (Sc.N ⟨na, ty, fl, ad, off, sz, li, inf, al, en⟩)) rfl rfl _ _ (blk2 rfl).2.1 (by kernel_rfl) rfl (one_u64s _) ?_)
 refine bodyPost_ret (results_cell_row (cs := u64s (Sc.N ⟨na, ty, fl, ad, off, sz, li, inf, al, en⟩)) rfl _ _ (w.heap.size + 1) _ (0, 0) _ rfl ((blk2 rfl).2.1.set _) Tryz.underlying231 rfl (by kernel_rfl)) rfl ?_
 exact ⟨rfl, Grow.set (blk2 rfl).2.2 (Nat.le_succ _) _⟩
theorem sHdr_any (x0 x1 x2 x3 x4 x5 x6 x7 x8 x9 : Nat) (w : World) (k0 : x0 < 4294967296) (k1 : x1 < 4294967296) (k6 : x6 < 4294967296) (k7 : x7 < 4294967296) :
  Calls Tryz.prog 133 #[.agg (u64s [x0, x1, x2, x3, x4, x5, x6, x7, x8, x9])] w fun e w' => e = .returned (Sc.V ⟨x0, x1, x2, x3, x4, x5, x6, x7, x8, x9⟩) ∧ Grow w w' := by
 have z0 : IntKind.u32.wrap (x0 : Int) = (x0 : Int) := by rw [IntKind.wrap_u32]; omega
 have z1 : IntKind.u32.wrap (x1 : Int) = (x1 : Int) := by rw [IntKind.wrap_u32]; omega
 have z6 : IntKind.u32.wrap (x6 : Int) = (x6 : Int) := by rw [IntKind.wrap_u32]; omega
 have z7 : IntKind.u32.wrap (x7 : Int) = (x7 : Int) := by rw [IntKind.wrap_u32]; omega
 clear k0 k1 k6 k7
 unfold u64s
 simp only [List.map_cons, List.map_nil]
 go_enter Tryz.func133, Tryz.ntmps133
 go_wp2_with (refine wpList_store_row rfl 172 (.tmp 2) (.tmp 27) rfl (w.heap.size + 1) (Sc.C ⟨x0, x1, x2, x3, x4, x5, x6, x7, x8, x9⟩) rfl rfl _ _ (blk2 rfl).2.1 (by kernel_rfl) rfl (Sc.one _) ?_)
 refine bodyPost_ret (results_cell_row (cs := Sc.C ⟨x0, x1, x2, x3, x4, x5, x6, x7, x8, x9⟩) rfl _ _ (w.heap.size + 1) _ (0, 0) _ rfl ((blk2 rfl).2.1.set _) Tryz.underlying172 rfl (by kernel_rfl)) rfl ?_
 exact ⟨rfl, Grow.set (blk2 rfl).2.2 (Nat.le_succ _) _⟩
end Go.Proofs.YtfbimboemahhhaaGreatDoor
