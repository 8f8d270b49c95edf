/-
  Several texts in one: What is told of any bytes as a header, in plain words; The contract of wire; Plain answers of layer 5, and the contracts of prog; The contracts of the document's own Row.
-/
import Derived.Test.YtaianmonokeimaaIbH15
import Derived.Test.YtaianmonokeimaaIbH2
import Derived.Deep.OwnRows
import Derived.Test.YtaianmonokeimaaRows
import Derived.Test.YtaianmonokeimaaIbH4
import Derived.WalkKit
import Derived.Laws.ResultCell
import Derived.Lib.Hide
import Derived.Test.YtaianmonokeimaaIbH8
namespace Go.Proofs.Ytaianmonokeimaa
open Go.Lib (hid)
open Go.RowKit
set_option maxRecDepth 100000
def lWide (l : List UInt8) : Bool := l.getD 4 0 == 2
def lBig (l : List UInt8) : Bool := l.getD 5 0 == 2
def hdX (l : List UInt8) : List Nat := nums l (lBig l) 16 (hRow (lWide l))
def hdOf (l : List UInt8) : Hd := ⟨lWide l, lBig l, l.getD 7 0, l.getD 8 0, (hdX l).getD 0 0, (hdX l).getD 1 0, (hdX l).getD 3 0, (hdX l).getD 4 0, (hdX l).getD 5 0, (hdX l).getD 6 0, (hdX l).getD 9 0, (hdX l).getD 11 0, (hdX l).getD 12 0⟩
def HBad (l : List UInt8) (k : Nat) : Prop := (hdX l).getD k 0 ≠ (hdOf l).N.getD k 0 ∧ mayAny k (hdOf l).pn (hdOf l).sh = false
def hdTold (l : List UInt8) (c p : Nat) : Prop :=
 (l.length < hSize (lWide l) ∧ c = 2 ∧ p = l.length) ∨ (hSize (lWide l) ≤ l.length ∧ (∀ j, j < 13 → ¬ HBad l j) ∧ c = 0 ∧ p = 0) ∨
 (hSize (lWide l) ≤ l.length ∧ c = 4 ∧ ∃ k, k < 13 ∧ (∀ j, j < k → ¬ HBad l j) ∧ HBad l k ∧ p = 16 + sumN ((hRow (lWide l)).take k))
def HTold (l : List UInt8) (c p : Nat) (v : Value) : Prop :=
 (c ≠ 0 ∧ Told l c p ∧ v = hd0.V) ∨ (Told l 0 0 ∧ hdTold l c p ∧ v = if c = 0 then (hdOf l).V else hd0.V)
theorem hdTold.one {l : List UInt8} {c p c' p' : Nat} (h : hdTold l c p) (h' : hdTold l c' p') : c = c' ∧ p = p' := by
 rcases h with ⟨h1, rfl, rfl⟩ | ⟨h1, h2, rfl, rfl⟩ | ⟨h1, rfl, k, hk, h2, h3, rfl⟩ <;> rcases h' with ⟨g1, rfl, rfl⟩ | ⟨g1, g2, rfl, rfl⟩ | ⟨g1, rfl, k', hk', g2, g3, rfl⟩
 ·exact ⟨rfl, rfl⟩
 ·omega
 ·omega
 ·omega
 ·exact ⟨rfl, rfl⟩
 ·exact absurd g3 (h2 _ hk')
 ·omega
 ·exact absurd h3 (g2 _ hk)
 ·refine ⟨rfl, ?_⟩
  rcases Nat.lt_trichotomy k k' with e | e | e
  ·exact absurd h3 (g2 _ e)
  ·rw [e]
  ·exact absurd g3 (h2 _ e)
theorem HTold.one {l : List UInt8} {c p c' p' : Nat} {v v' : Value} (h : HTold l c p v) (h' : HTold l c' p' v') : c = c' ∧ p = p' ∧ v = v' := by
 rcases h with ⟨h1, h2, rfl⟩ | ⟨h1, h2, rfl⟩ <;> rcases h' with ⟨g1, g2, rfl⟩ | ⟨g1, g2, rfl⟩
 ·obtain ⟨rfl, rfl⟩ := h2.one g2
  exact ⟨rfl, rfl, rfl⟩
 ·exact absurd (h2.one g1).1 h1
 ·exact absurd (g2.one h1).1 g1
 ·obtain ⟨rfl, rfl⟩ := h2.one g2
  exact ⟨rfl, rfl, rfl⟩
theorem hdX_len (l : List UInt8) : (hdX l).length = 13 := length_nums _ _ _ _
theorem hdX_lt (l : List UInt8) (k : Nat) (h : k < 13) : (hdX l).getD k 0 < 256 ^ ((hRow (lWide l)).getD k 0) := by
 have h1 : k < (nums l (lBig l) 16 (hRow (lWide l))).length := by rw [length_nums]; exact h
 have := nums_lt l (lBig l) (hRow (lWide l)) 16 k h1
 rw [hdX, List.getD_eq_getElem?_getD, List.getElem?_eq_getElem h1]
 exact this
theorem hdX_64 (l : List UInt8) (k : Nat) : (hdX l).getD k 0 < 18446744073709551616 := by
 by_cases hk : k < 13
 ·have h := hdX_lt l k hk
  match k, hk with
  | 0, _ => exact Nat.lt_of_lt_of_le h (show 256 ^ 2 ≤ 18446744073709551616 by decide)
  | 1, _ => exact Nat.lt_of_lt_of_le h (show 256 ^ 2 ≤ 18446744073709551616 by decide)
  | 2, _ => exact Nat.lt_of_lt_of_le h (show 256 ^ 4 ≤ 18446744073709551616 by decide)
  | 3, _ => exact byWide_pow _ _ h
  | 4, _ => exact byWide_pow _ _ h
  | 5, _ => exact byWide_pow _ _ h
  | 6, _ => exact Nat.lt_of_lt_of_le h (show 256 ^ 4 ≤ 18446744073709551616 by decide)
  | 7, _ => exact Nat.lt_of_lt_of_le h (show 256 ^ 2 ≤ 18446744073709551616 by decide)
  | 8, _ => exact Nat.lt_of_lt_of_le h (show 256 ^ 2 ≤ 18446744073709551616 by decide)
  | 9, _ => exact Nat.lt_of_lt_of_le h (show 256 ^ 2 ≤ 18446744073709551616 by decide)
  | 10, _ => exact Nat.lt_of_lt_of_le h (show 256 ^ 2 ≤ 18446744073709551616 by decide)
  | 11, _ => exact Nat.lt_of_lt_of_le h (show 256 ^ 2 ≤ 18446744073709551616 by decide)
  | 12, _ => exact Nat.lt_of_lt_of_le h (show 256 ^ 2 ≤ 18446744073709551616 by decide)
 ·rw [List.getD_eq_getElem?_getD, List.getElem?_eq_none (by rw [hdX_len]; omega)]
  decide
theorem hdOf_ok (l : List UInt8) : (hdOf l).Ok :=
 ⟨hdX_lt l 0 (by decide), hdX_lt l 1 (by decide), hdX_64 l 3, hdX_64 l 4, hdX_64 l 5, hdX_lt l 6 (by decide), hdX_lt l 9 (by decide), hdX_lt l 11 (by decide), hdX_lt l 12 (by decide)⟩
theorem hdOf_eq {l : List UInt8} {x0 x1 x2 x3 x4 x5 x6 x7 x8 x9 x10 x11 x12 : Nat} (h : hdX l = [x0, x1, x2, x3, x4, x5, x6, x7, x8, x9, x10, x11, x12]) :
  hdOf l = ⟨lWide l, lBig l, l.getD 7 0, l.getD 8 0, x0, x1, x3, x4, x5, x6, x9, x11, x12⟩ := by
 unfold hdOf; rw [h]; rfl
theorem idOf_zero (l : List UInt8) : idOf l 0 = idV (lWide l) (lBig l) (l.getD 7 0) (l.getD 8 0) := by rw [idOf, if_pos rfl]; rfl
theorem idOf_bad (l : List UInt8) {c : Nat} (h : c ≠ 0) : idOf l c = idV false false 0 0 := by rw [idOf, if_neg h]
end Go.Proofs.Ytaianmonokeimaa
namespace Go.Proofs.Ytaianmonokeimaa
open Go.Lib (hid)
open Go.RowKit Go.Deep
def Made (l : List UInt8) (w : World) (e : Ending) (w' : World) : Prop :=
 ∃ A c, e = .returned (.slice A l.length c) ∧ OB w' w.heap.size 5 A l.length c l ∧ Below w.heap.size w w'
def putL (v n : Int) (big : Bool) : List UInt8 := if wid n then putB v.toNat n.toNat big else []
theorem put_no (v n : Int) (big : Bool) (w : World) (h : wid n = false) :
  Calls Try.prog 50 #[.int .u64 v, .int .i64 n, .bool big] w fun e w' => e = .returned (.slice none 0 0) ∧ w = w' := by
 have H := hid h
 clear h
 go_enter Try.func50, Try.ntmps50
 go_wp2_with (go_at_call 73; refine (isWidth_any _ _).mono ?_; rintro e w' ⟨rfl, rfl⟩; rw [H.out])
 go_ret
 exact ⟨rfl, rfl⟩
def wrote (l : List UInt8) (k j : Nat) : Value := .int .u8 (if j < k then (l.getD j 0).toNat else 0 : Nat)
theorem shr_fact (v r : Nat) (hr : r < 8) : Op.shift .shr .u64 (v : Int) .u64 (8 * (r : Nat) : Int) = pure (.int .u64 ((v / 256 ^ r : Nat) : Int)) := by
 rw [shift_shr_any _ _ _ _ (by omega), show min ((8 * (r : Nat) : Int)).toNat IntKind.u64.bits = 8 * r by simp [IntKind.bits]; omega]
 congr 2
 rw [pow256]
 simp
set_option maxHeartbeats 400000 in
theorem put_yes (v n : Nat) (big : Bool) (w : World) (h : wid n = true) :
  Calls Try.prog 50 #[.int .u64 v, .int .i64 n, .bool big] w fun e w' => e = .returned (.slice (some ⟨w.heap.size, 0, none⟩) n n) ∧
   w'.rowIs w.heap.size 5 n (wrote (putB v n big) n) ∧ Below w.heap.size w w' := by
 have hn8 : n ≤ 8 := by have := wid_cases h; omega
 have H := hid h
 have hmk : ∀ W : World, (Instr.makeSlice 35 (.int .i64 (n : Int)) (.int .i64 (n : Int))).run Try.prog W = .ok (.slice (some ⟨W.heap.size, 0, none⟩) n n) (W.alloc (.cells (madeCells #[.int .u8 0] n) 5)) :=
  fun W => run_make_row' 35 5 (.int .u8 0) 1 Try.underlying35 (by kernel_rfl) rfl _ _ n (by omega) (by omega) W
 have h0 : (w.alloc (.cells (madeCells #[.int .u8 0] n) 5)).rowIs w.heap.size 5 n (wrote (putB v n big) 0) := (World.rowIs_made w (.int .u8 0) n 5).congr fun i _ => by simp [wrote]
 have H0 := hid h0
 clear h h0
 go_enter Try.func50, Try.ntmps50
 go_wp2_with (go_at_call 73; refine (isWidth_any _ _).mono ?_; rintro e w' ⟨rfl, rfl⟩; rw [H.out])
 obtain ⟨g, hg⟩ : ∃ g, g = w.heap.size := ⟨_, rfl⟩
 rw [← hg] at H0
 have HG := hid hg
 rw [← hg]
 clear hmk
 go_loopw [15] (fun i wr => ∃ k : Nat, k ≤ n ∧ i = .int .i64 k ∧ wr.rowIs g 5 n (wrote (putB v n big) k) ∧ Below g w wr) (fun i _ => n - (intOf i).toNat)
 case atStart => exact ⟨0, Nat.zero_le _, rfl, H0.out, (Below.refl _ _).alloc (by omega) _⟩
 case round =>
  obtain ⟨k, hk, rfl, hrow, hbel⟩ := hrel
  clear hg
  by_cases hlt : k < n
  ·have hcl := hrow.cell hlt
   have hfz := hrow.frozen k
   have HR := hid hrow
   have HB := hid hbel
   have z7 := shr_fact v (rank k n big) (by have := rank_lt k n big hlt; omega)
   obtain ⟨y, hy⟩ : ∃ y, y = v / 256 ^ rank k n big := ⟨_, rfl⟩
   have HY := hid hy
   rw [← hy] at z7
   clear hrow hbel hy
   go_wp2_with (go_at_call 74; refine (shift_any k n big _ hlt hn8).mono ?_; rintro e w' ⟨rfl, rfl⟩)
   go_roundw
   case rel =>
    refine ⟨k + 1, by omega, by go_num, (HR.out.set k _).congr fun j hj => ?_, HB.out.setCell (Nat.le_refl _) _⟩
    have hyv : (putB v n big).getD j 0 = UInt8.ofNat (v / 256 ^ rank j n big) := by rw [List.getD_eq_getElem?_getD, putB_at v n j big hj]; rfl
    by_cases e : j = k
    ·subst e
     simp only [if_true, wrote, Nat.lt_succ_self, hyv, HY.out, toNat_ofNat8]
     simp
    ·rw [if_neg e]
     by_cases e2 : j < k
     ·simp only [wrote, if_pos e2, if_pos (show j < k + 1 by omega)]
     ·simp only [wrote, if_neg e2, if_neg (show ¬ j < k + 1 by omega)]
   case measure => simp [intOf]; omega
  ·have HR : Hid (wr.rowIs g 5 n (wrote (putB v n big) n)) := by
    have e : k = n := by omega
    rw [e] at hrow
    exact hrow
   have HB := hid hbel
   clear hrow hbel
   go_wp2
   go_ret
   rw [← HG.out]
   exact ⟨rfl, HR.out, HB.out⟩
theorem put_any (v n : Int) (big : Bool) (w : World) (h0 : 0 ≤ v) :
  Calls Try.prog 50 #[.int .u64 v, .int .i64 n, .bool big] w (Made (putL v n big) w) := by
 cases h : wid n
 ·have e : putL v n big = [] := by simp [putL, h]
  rw [e]
  exact (put_no v n big w h).mono fun e w' ⟨h1, h2⟩ => ⟨none, 0, h1, OB.nil, h2 ▸ Below.refl _ _⟩
 ·obtain ⟨N, rfl⟩ : ∃ N : Nat, n = N := ⟨n.toNat, by have := wid_cases h; omega⟩
  obtain ⟨V, rfl⟩ : ∃ N : Nat, v = N := ⟨v.toNat, by omega⟩
  have hN8 : N ≤ 8 := by have := wid_cases h; omega
  have e : putL V N big = putB V N big := by simp [putL, h]
  rw [e]
  refine (put_yes V N big w h).mono fun e w' ⟨h1, h2, h3⟩ => ?_
  have hlen := length_putB V N big
  refine ⟨some ⟨w.heap.size, 0, none⟩, N, by rw [hlen]; exact h1, ⟨by simp, .inr ?_⟩, h3⟩
  obtain ⟨c, hb, hn, hc⟩ := h2
  rw [hlen]
  refine ⟨w.heap.size, N, c, rfl, Nat.le_refl _, hb, Nat.le_refl _, by unfold maxLen; omega, by omega, ?_⟩
  apply List.ext_getElem?
  intro i
  by_cases hi : i < N
  ·rw [List.getElem?_take_of_lt (by omega), Array.getElem?_toList, hc i hi]
   have := putB_at V N i big hi
   simp [wrote, hi, this, byt]
  ·rw [List.getElem?_eq_none (by simp; omega), List.getElem?_eq_none (by simp; omega)]
theorem put_wide (v : Int) (n : Nat) (big : Bool) (w : World) (h : wid n = true) (h0 : 0 ≤ v) :
  Calls Try.prog 50 #[.int .u64 v, .int .i64 n, .bool big] w fun e w' => ∃ A c, e = .returned (.slice A n c) ∧ OB w' w.heap.size 5 A n c (putB v.toNat n big) ∧ Below w.heap.size w w' := by
 refine (put_any v n big w h0).mono fun e w' ⟨A, c, h1, h2, h3⟩ => ?_
 have e1 : putL v n big = putB v.toNat n big := by simp [putL, h]
 rw [e1, length_putB] at h1 h2
 exact ⟨A, c, h1, h2, h3⟩
end Go.Proofs.Ytaianmonokeimaa
namespace Go.Proofs.Ytaianmonokeimaa
open Go.Lib (hid)
open Go.RowKit
structure Pg where
 ty : Nat
 fl : Nat
 off : Nat
 va : Nat
 pa : Nat
 fs : Nat
 ms : Nat
 al : Nat
structure Pg.Ok (p : Pg) : Prop where
 ty : p.ty < 4294967296
 fl : p.fl < 4294967296
 off : p.off < 18446744073709551616
 va : p.va < 18446744073709551616
 pa : p.pa < 18446744073709551616
 fs : p.fs < 18446744073709551616
 ms : p.ms < 18446744073709551616
 al : p.al < 18446744073709551616
def Pg.C (p : Pg) : Array Value := #[.int .u32 (p.ty : Int), .int .u32 (p.fl : Int), .int .u64 (p.off : Int), .int .u64 (p.va : Int), .int .u64 (p.pa : Int), .int .u64 (p.fs : Int), .int .u64 (p.ms : Int), .int .u64 (p.al : Int)]
def Pg.V (p : Pg) : Value := .agg p.C
def pg0 : Pg := ⟨0, 0, 0, 0, 0, 0, 0, 0⟩
def Pg.N (p : Pg) : List Nat := [p.ty, p.fl, p.off, p.va, p.pa, p.fs, p.ms, p.al]
def pSize (wide : Bool) : Nat := byWide wide 32 56
def pOrd (wide : Bool) : List Nat := if wide then [0, 1, 2, 3, 4, 5, 6, 7] else [0, 2, 3, 4, 5, 6, 1, 7]
def pWid (wide : Bool) (i : Nat) : Nat := if wide && ((i : Int) != 0) && ((i : Int) != 1) then 8 else 4
def pRow (wide : Bool) : List Nat := (pOrd wide).map (pWid wide)
theorem Pg.one (p : Pg) : p.C.all (·.oneCell') = true := by simp [Pg.C, Value.oneCell']
theorem len_pOrd (wide : Bool) : (pOrd wide).length = 8 := by cases wide <;> rfl
theorem len_pRow (wide : Bool) : (pRow wide).length = 8 := by cases wide <;> rfl
theorem sum_pRow (wide : Bool) : sumN (pRow wide) = pSize wide := by cases wide <;> rfl
theorem pOrd_lt (wide : Bool) (k : Nat) (h : k < 8) : (pOrd wide).getD k 0 < 8 := by
 cases wide <;> (match k, h with
  | 0, _ => decide
  | 1, _ => decide
  | 2, _ => decide
  | 3, _ => decide
  | 4, _ => decide
  | 5, _ => decide
  | 6, _ => decide
  | 7, _ => decide)
theorem pWid_wid (wide : Bool) (i : Nat) : wid (pWid wide i : Nat) = true := by
 unfold pWid
 split <;> rfl
theorem pSize_any (wide big : Bool) (w : World) : Calls Try.prog 26 #[.agg #[.bool wide, .bool big]] w fun e w' => e = .returned (.int .i64 (pSize wide : Nat)) ∧ Grow w w' := by
 cases wide
 ·go_enter Try.func26, Try.ntmps26
  go_wp2
  go_ret
  exact ⟨rfl, Grow.of_alloc _ _⟩
 ·go_enter Try.func26, Try.ntmps26
  go_wp2
  go_ret
  exact ⟨rfl, Grow.of_alloc _ _⟩
theorem pWid_any (wide big : Bool) (i : Nat) (w : World) : Calls Try.prog 53 #[.int .i64 i, .agg #[.bool wide, .bool big]] w fun e w' => e = .returned (.int .i64 (pWid wide i : Nat)) ∧ Grow w w' := by
 unfold pWid
 cases wide
 ·go_enter Try.func53, Try.ntmps53
  go_wp2
  go_ret
  exact ⟨rfl, Grow.of_alloc _ _⟩
 ·cases h0 : ((i : Int) != 0)
  ·go_enter Try.func53, Try.ntmps53
   go_wp2
   go_ret
   exact ⟨rfl, Grow.of_alloc _ _⟩
  ·cases h1 : ((i : Int) != 1)
   ·go_enter Try.func53, Try.ntmps53
    go_wp2
    go_ret
    exact ⟨rfl, Grow.of_alloc _ _⟩
   ·go_enter Try.func53, Try.ntmps53
    go_wp2
    go_ret
    exact ⟨rfl, Grow.of_alloc _ _⟩
theorem pOrd_any (wide big : Bool) (w : World) : Calls Try.prog 52 #[.agg #[.bool wide, .bool big]] w fun e w' => e = .returned (.agg (i64s (pOrd wide))) ∧ Grow w w' := by
 cases wide
 ·go_enter Try.func52, Try.ntmps52
  go_wp2_with (refine wpList_store_row rfl 119 (.tmp 2) (.tmp 6) rfl (w.heap.size + 1) (i64s (pOrd false)) rfl rfl _ _ (blk2 rfl).2.1 (by kernel_rfl) rfl (one_i64s _) ?_)
  refine bodyPost_ret (results_cell_row (cs := i64s (pOrd false)) rfl _ _ (w.heap.size + 1) _ (0, 0) _ rfl ((blk2 rfl).2.1.set _) Try.underlying119 rfl (by kernel_rfl)) rfl ?_
  exact ⟨rfl, Grow.set (blk2 rfl).2.2 (Nat.le_succ _) _⟩
 ·go_enter Try.func52, Try.ntmps52
  go_wp2_with (refine wpList_store_row rfl 119 (.tmp 2) (.tmp 5) rfl (w.heap.size + 1) (i64s (pOrd true)) rfl rfl _ _ (blk2 rfl).2.1 (by kernel_rfl) rfl (one_i64s _) ?_)
  refine bodyPost_ret (results_cell_row (cs := i64s (pOrd true)) rfl _ _ (w.heap.size + 1) _ (0, 0) _ rfl ((blk2 rfl).2.1.set _) Try.underlying119 rfl (by kernel_rfl)) rfl ?_
  exact ⟨rfl, Grow.set (blk2 rfl).2.2 (Nat.le_succ _) _⟩
theorem pNum_any (p : Pg) (ok : p.Ok) (w : World) : Calls Try.prog 51 #[p.V] w fun e w' => e = .returned (.agg (u64s p.N)) ∧ Grow w w' := by
 obtain ⟨ty, fl, off, va, pa, fs, ms, al⟩ := p
 obtain ⟨k1, k2, k3, k4, k5, k6, k7, k8⟩ := ok
 unfold Pg.V Pg.C
 simp only [] at *
 have z1 : IntKind.u64.wrap (ty : Int) = (ty : Int) := by rw [IntKind.wrap_u64]; omega
 have z2 : IntKind.u64.wrap (fl : Int) = (fl : Int) := by rw [IntKind.wrap_u64]; omega
 clear k1 k2 k3 k4 k5 k6 k7 k8
 go_enter Try.func51, Try.ntmps51
 go_wp2_with (refine wpList_store_row rfl 117 (.tmp 2) (.tmp 21) rfl (w.heap.size + 1) (u64s (Pg.N ⟨ty, fl, off, va, pa, fs, ms, al⟩)) rfl rfl _ _ (blk2 rfl).2.1 (by kernel_rfl) rfl (one_u64s _) ?_)
 refine bodyPost_ret (results_cell_row (cs := u64s (Pg.N ⟨ty, fl, off, va, pa, fs, ms, al⟩)) rfl _ _ (w.heap.size + 1) _ (0, 0) _ rfl ((blk2 rfl).2.1.set _) Try.underlying117 rfl (by kernel_rfl)) rfl ?_
 exact ⟨rfl, Grow.set (blk2 rfl).2.2 (Nat.le_succ _) _⟩
theorem pHdr_any (x0 x1 x2 x3 x4 x5 x6 x7 : Nat) (w : World) (k0 : x0 < 4294967296) (k1 : x1 < 4294967296) :
  Calls Try.prog 61 #[.agg (u64s [x0, x1, x2, x3, x4, x5, x6, x7])] w fun e w' => e = .returned (Pg.V ⟨x0, x1, x2, x3, x4, x5, x6, x7⟩) ∧ Grow w w' := by
 have z0 : IntKind.u32.wrap (x0 : Int) = (x0 : Int) := by rw [IntKind.wrap_u32]; omega
 have z1 : IntKind.u32.wrap (x1 : Int) = (x1 : Int) := by rw [IntKind.wrap_u32]; omega
 clear k0 k1
 unfold u64s
 simp only [List.map_cons, List.map_nil]
 go_enter Try.func61, Try.ntmps61
 go_wp2_with (refine wpList_store_row rfl 82 (.tmp 2) (.tmp 21) rfl (w.heap.size + 1) (Pg.C ⟨x0, x1, x2, x3, x4, x5, x6, x7⟩) rfl rfl _ _ (blk2 rfl).2.1 (by kernel_rfl) rfl (Pg.one _) ?_)
 refine bodyPost_ret (results_cell_row (cs := Pg.C ⟨x0, x1, x2, x3, x4, x5, x6, x7⟩) rfl _ _ (w.heap.size + 1) _ (0, 0) _ rfl ((blk2 rfl).2.1.set _) Try.underlying82 rfl (by kernel_rfl)) rfl ?_
 exact ⟨rfl, Grow.set (blk2 rfl).2.2 (Nat.le_succ _) _⟩
structure Rowed (q : List (Nat × Nat)) : Prop where
 few : q.length ≤ 100
 wide : ∀ k (h : k < q.length), wid q[k].2 = true
 lt : ∀ k (h : k < q.length), q[k].1 < 18446744073709551616
theorem Rowed.wide8 {q : List (Nat × Nat)} (h : Rowed q) (k : Nat) (hk : k < q.length) : q[k].2 ≤ 8 := by
 have := wid_cases (h.wide k hk); omega
theorem rowB_le {q : List (Nat × Nat)} (h : Rowed q) (big : Bool) : ∀ k, k ≤ q.length → (rowB big (q.take k)).length ≤ 8 * k
 | 0, _ => by simp [rowB]
 | k + 1, hk => by
  rw [rowB_succ big q k (by omega), List.length_append, length_putB]
  have := rowB_le h big k (by omega)
  have := h.wide8 k (by omega)
  omega
theorem fits_row (v n : Nat) (h : wid n = true) : fits v n = decide (v < 256 ^ n) := by
 simp only [fits, h, Bool.true_and, Int.toNat_natCast]
 rw [Bool.eq_iff_iff, decide_eq_true_iff, decide_eq_true_iff]
 have e : ((256 : Int) ^ n) = ((256 ^ n : Nat) : Int) := by simp
 rw [e]; omega
end Go.Proofs.Ytaianmonokeimaa
