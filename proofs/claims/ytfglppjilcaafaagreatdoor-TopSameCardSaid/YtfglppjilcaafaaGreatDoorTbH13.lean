/-
  Several texts in one: The contract of wire; Plain answers of layer 5, and the contracts of prog; Contracts of the document's own Wide (layer 1); The contract of the document's own Fits (layer 1); The contracts of the document's own Row; The contract of prog; What is told of any bytes as a program header, in plain words.
-/
import Derived.Test.YtfglppjilcaafaaGreatDoorTbH12
import Derived.Test.YtfglppjilcaafaaGreatDoorTbH2
import Derived.Deep.OwnRows
import Derived.Test.YtfglppjilcaafaaGreatDoorRows
import Derived.Test.YtfglppjilcaafaaGreatDoorTbH4
import Derived.WalkKit
import Derived.Laws.ResultCell
import Derived.Lib.Hide
import Derived.Test.YtfglppjilcaafaaGreatDoorTbH7
import Derived.Test.YtfglppjilcaafaaGreatDoorTbH3
namespace Go.Proofs.YtfglppjilcaafaaGreatDoor
open Go.Lib (hid)
open Go.RowKit Go.Deep
def Made (l : List UInt8) (w : World) (e : Ending) (w' : World) : Prop :=
 ∃ A c, e = .returned (.slice A l.length c) ∧ OB w' w.heap.size 5 A l.length c l ∧ Below w.heap.size w w'
def putL (v n : Int) (big : Bool) : List UInt8 := if wid n then putB v.toNat n.toNat big else []
theorem put_no (v n : Int) (big : Bool) (w : World) (h : wid n = false) :
  Calls Tryz.prog 111 #[.int .u64 v, .int .i64 n, .bool big] w fun e w' => e = .returned (.slice none 0 0) ∧ w = w' := by
 have H := hid h
 clear h
 go_enter Tryz.func111, Tryz.ntmps111
 go_wp2_with (go_at_call 130; refine (isWidth_any _ _).mono ?_; rintro e w' ⟨rfl, rfl⟩; rw [H.out])
 go_ret
 exact ⟨rfl, rfl⟩
def wrote (l : List UInt8) (k j : Nat) : Value := .int .u8 (if j < k then (l.getD j 0).toNat else 0 : Nat)
theorem shr_fact (v r : Nat) (hr : r < 8) : Op.shift .shr .u64 (v : Int) .u64 (8 * (r : Nat) : Int) = pure (.int .u64 ((v / 256 ^ r : Nat) : Int)) := by
 rw [shift_shr_any _ _ _ _ (by omega), show min ((8 * (r : Nat) : Int)).toNat IntKind.u64.bits = 8 * r by simp [IntKind.bits]; omega]
 congr 2
 rw [pow256]
 simp
set_option maxHeartbeats 400000 in
theorem put_yes (v n : Nat) (big : Bool) (w : World) (h : wid n = true) :
  Calls Tryz.prog 111 #[.int .u64 v, .int .i64 n, .bool big] w fun e w' => e = .returned (.slice (some ⟨w.heap.size, 0, none⟩) n n) ∧
   w'.rowIs w.heap.size 5 n (wrote (putB v n big) n) ∧ Below w.heap.size w w' := by
 have hn8 : n ≤ 8 := by have := wid_cases h; omega
 have H := hid h
 have hmk : ∀ W : World, (Instr.makeSlice 33 (.int .i64 (n : Int)) (.int .i64 (n : Int))).run Tryz.prog W = .ok (.slice (some ⟨W.heap.size, 0, none⟩) n n) (W.alloc (.cells (madeCells #[.int .u8 0] n) 5)) :=
  fun W => run_make_row' 33 5 (.int .u8 0) 1 Tryz.underlying33 (by kernel_rfl) rfl _ _ n (by omega) (by omega) W
 have h0 : (w.alloc (.cells (madeCells #[.int .u8 0] n) 5)).rowIs w.heap.size 5 n (wrote (putB v n big) 0) := (World.rowIs_made w (.int .u8 0) n 5).congr fun i _ => by simp [wrote]
 have H0 := hid h0
 clear h h0
 go_enter Tryz.func111, Tryz.ntmps111
 go_wp2_with (go_at_call 130; refine (isWidth_any _ _).mono ?_; rintro e w' ⟨rfl, rfl⟩; rw [H.out])
 obtain ⟨g, hg⟩ : ∃ g, g = w.heap.size := ⟨_, rfl⟩
 rw [← hg] at H0
 have HG := hid hg
 rw [← hg]
 clear hmk
 go_loopw [15] (fun i wr => ∃ k : Nat, k ≤ n ∧ i = .int .i64 k ∧ wr.rowIs g 5 n (wrote (putB v n big) k) ∧ Below g w wr) (fun i _ => n - (intOf i).toNat)
 case atStart => exact ⟨0, Nat.zero_le _, rfl, H0.out, (Below.refl _ _).alloc (by omega) _⟩
 case round =>
  obtain ⟨k, hk, rfl, hrow, hbel⟩ := hrel
  clear hg
  by_cases hlt : k < n
  ·have hcl := hrow.cell hlt
   have hfz := hrow.frozen k
   have HR := hid hrow
   have HB := hid hbel
   have z7 := shr_fact v (rank k n big) (by have := rank_lt k n big hlt; omega)
   obtain ⟨y, hy⟩ : ∃ y, y = v / 256 ^ rank k n big := ⟨_, rfl⟩
   have HY := hid hy
   rw [← hy] at z7
   clear hrow hbel hy
   go_wp2_with (go_at_call 145; refine (shift_any k n big _ hlt hn8).mono ?_; rintro e w' ⟨rfl, rfl⟩)
   go_roundw
   case rel =>
    refine ⟨k + 1, by omega, by go_num, (HR.out.set k _).congr fun j hj => ?_, HB.out.setCell (Nat.le_refl _) _⟩
    have hyv : (putB v n big).getD j 0 = UInt8.ofNat (v / 256 ^ rank j n big) := by rw [List.getD_eq_getElem?_getD, putB_at v n j big hj]; rfl
    by_cases e : j = k
    ·subst e
     simp only [if_true, wrote, Nat.lt_succ_self, hyv, HY.out, toNat_ofNat8]
     simp
    ·rw [if_neg e]
     by_cases e2 : j < k
     ·simp only [wrote, if_pos e2, if_pos (show j < k + 1 by omega)]
     ·simp only [wrote, if_neg e2, if_neg (show ¬ j < k + 1 by omega)]
   case measure => simp [intOf]; omega
  ·have HR : Hid (wr.rowIs g 5 n (wrote (putB v n big) n)) := by
    have e : k = n := by omega
    rw [e] at hrow
    exact hrow
   have HB := hid hbel
   clear hrow hbel
   go_wp2
   go_ret
   rw [← HG.out]
   exact ⟨rfl, HR.out, HB.out⟩
theorem put_any (v n : Int) (big : Bool) (w : World) (h0 : 0 ≤ v) :
  Calls Tryz.prog 111 #[.int .u64 v, .int .i64 n, .bool big] w (Made (putL v n big) w) := by
 cases h : wid n
 ·have e : putL v n big = [] := by simp [putL, h]
  rw [e]
  exact (put_no v n big w h).mono fun e w' ⟨h1, h2⟩ => ⟨none, 0, h1, OB.nil, h2 ▸ Below.refl _ _⟩
 ·obtain ⟨N, rfl⟩ : ∃ N : Nat, n = N := ⟨n.toNat, by have := wid_cases h; omega⟩
  obtain ⟨V, rfl⟩ : ∃ N : Nat, v = N := ⟨v.toNat, by omega⟩
  have hN8 : N ≤ 8 := by have := wid_cases h; omega
  have e : putL V N big = putB V N big := by simp [putL, h]
  rw [e]
  refine (put_yes V N big w h).mono fun e w' ⟨h1, h2, h3⟩ => ?_
  have hlen := length_putB V N big
  refine ⟨some ⟨w.heap.size, 0, none⟩, N, by rw [hlen]; exact h1, ⟨by simp, .inr ?_⟩, h3⟩
  obtain ⟨c, hb, hn, hc⟩ := h2
  rw [hlen]
  refine ⟨w.heap.size, N, c, rfl, Nat.le_refl _, hb, Nat.le_refl _, by unfold maxLen; omega, by omega, ?_⟩
  apply List.ext_getElem?
  intro i
  by_cases hi : i < N
  ·rw [List.getElem?_take_of_lt (by omega), Array.getElem?_toList, hc i hi]
   have := putB_at V N i big hi
   simp [wrote, hi, this, byt]
  ·rw [List.getElem?_eq_none (by simp; omega), List.getElem?_eq_none (by simp; omega)]
theorem put_wide (v : Int) (n : Nat) (big : Bool) (w : World) (h : wid n = true) (h0 : 0 ≤ v) :
  Calls Tryz.prog 111 #[.int .u64 v, .int .i64 n, .bool big] w fun e w' => ∃ A c, e = .returned (.slice A n c) ∧ OB w' w.heap.size 5 A n c (putB v.toNat n big) ∧ Below w.heap.size w w' := by
 refine (put_any v n big w h0).mono fun e w' ⟨A, c, h1, h2, h3⟩ => ?_
 have e1 : putL v n big = putB v.toNat n big := by simp [putL, h]
 rw [e1, length_putB] at h1 h2
 exact ⟨A, c, h1, h2, h3⟩
end Go.Proofs.YtfglppjilcaafaaGreatDoor
namespace Go.Proofs.YtfglppjilcaafaaGreatDoor
open Go.Lib (hid)
open Go.RowKit
structure Pg where
 ty : Nat
 fl : Nat
 off : Nat
 va : Nat
 pa : Nat
 fs : Nat
 ms : Nat
 al : Nat
structure Pg.Ok (p : Pg) : Prop where
 ty : p.ty < 4294967296
 fl : p.fl < 4294967296
 off : p.off < 18446744073709551616
 va : p.va < 18446744073709551616
 pa : p.pa < 18446744073709551616
 fs : p.fs < 18446744073709551616
 ms : p.ms < 18446744073709551616
 al : p.al < 18446744073709551616
def Pg.C (p : Pg) : Array Value := #[.int .u32 (p.ty : Int), .int .u32 (p.fl : Int), .int .u64 (p.off : Int), .int .u64 (p.va : Int), .int .u64 (p.pa : Int), .int .u64 (p.fs : Int), .int .u64 (p.ms : Int), .int .u64 (p.al : Int)]
def Pg.V (p : Pg) : Value := .agg p.C
def pg0 : Pg := ⟨0, 0, 0, 0, 0, 0, 0, 0⟩
def Pg.N (p : Pg) : List Nat := [p.ty, p.fl, p.off, p.va, p.pa, p.fs, p.ms, p.al]
def pSize (wide : Bool) : Nat := byWide wide 32 56
def pOrd (wide : Bool) : List Nat := if wide then [0, 1, 2, 3, 4, 5, 6, 7] else [0, 2, 3, 4, 5, 6, 1, 7]
def pWid (wide : Bool) (i : Nat) : Nat := if wide && ((i : Int) != 0) && ((i : Int) != 1) then 8 else 4
def pRow (wide : Bool) : List Nat := (pOrd wide).map (pWid wide)
theorem Pg.one (p : Pg) : p.C.all (·.oneCell') = true := by simp [Pg.C, Value.oneCell']
theorem len_pOrd (wide : Bool) : (pOrd wide).length = 8 := by cases wide <;> rfl
theorem len_pRow (wide : Bool) : (pRow wide).length = 8 := by cases wide <;> rfl
theorem sum_pRow (wide : Bool) : sumN (pRow wide) = pSize wide := by cases wide <;> rfl
theorem pOrd_lt (wide : Bool) (k : Nat) (h : k < 8) : (pOrd wide).getD k 0 < 8 := by
 cases wide <;> (match k, h with
  | 0, _ => decide
  | 1, _ => decide
  | 2, _ => decide
  | 3, _ => decide
  | 4, _ => decide
  | 5, _ => decide
  | 6, _ => decide
  | 7, _ => decide)
theorem pWid_wid (wide : Bool) (i : Nat) : wid (pWid wide i : Nat) = true := by
 unfold pWid
 split <;> rfl
theorem pSize_any (wide big : Bool) (w : World) : Calls Tryz.prog 59 #[.agg #[.bool wide, .bool big]] w fun e w' => e = .returned (.int .i64 (pSize wide : Nat)) ∧ Grow w w' := by
 cases wide
 ·go_enter Tryz.func59, Tryz.ntmps59
  go_wp2
  go_ret
  exact ⟨rfl, Grow.of_alloc _ _⟩
 ·go_enter Tryz.func59, Tryz.ntmps59
  go_wp2
  go_ret
  exact ⟨rfl, Grow.of_alloc _ _⟩
theorem pWid_any (wide big : Bool) (i : Nat) (w : World) : Calls Tryz.prog 114 #[.int .i64 i, .agg #[.bool wide, .bool big]] w fun e w' => e = .returned (.int .i64 (pWid wide i : Nat)) ∧ Grow w w' := by
 unfold pWid
 cases wide
 ·go_enter Tryz.func114, Tryz.ntmps114
  go_wp2
  go_ret
  exact ⟨rfl, Grow.of_alloc _ _⟩
 ·cases h0 : ((i : Int) != 0)
  ·go_enter Tryz.func114, Tryz.ntmps114
   go_wp2
   go_ret
   exact ⟨rfl, Grow.of_alloc _ _⟩
  ·cases h1 : ((i : Int) != 1)
   ·go_enter Tryz.func114, Tryz.ntmps114
    go_wp2
    go_ret
    exact ⟨rfl, Grow.of_alloc _ _⟩
   ·go_enter Tryz.func114, Tryz.ntmps114
    go_wp2
    go_ret
    exact ⟨rfl, Grow.of_alloc _ _⟩
theorem pOrd_any (wide big : Bool) (w : World) : Calls Tryz.prog 113 #[.agg #[.bool wide, .bool big]] w fun e w' => e = .returned (.agg (i64s (pOrd wide))) ∧ Grow w w' := by
 cases wide
 ·go_enter Tryz.func113, Tryz.ntmps113
  go_wp2_with (refine wpList_store_row rfl 200 (.tmp 2) (.tmp 6) rfl (w.heap.size + 1) (i64s (pOrd false)) rfl rfl _ _ (blk2 rfl).2.1 (by kernel_rfl) rfl (one_i64s _) ?_)
  refine bodyPost_ret (results_cell_row (cs := i64s (pOrd false)) rfl _ _ (w.heap.size + 1) _ (0, 0) _ rfl ((blk2 rfl).2.1.set _) Tryz.underlying200 rfl (by kernel_rfl)) rfl ?_
  exact ⟨rfl, Grow.set (blk2 rfl).2.2 (Nat.le_succ _) _⟩
 ·go_enter Tryz.func113, Tryz.ntmps113
  go_wp2_with (refine wpList_store_row rfl 200 (.tmp 2) (.tmp 5) rfl (w.heap.size + 1) (i64s (pOrd true)) rfl rfl _ _ (blk2 rfl).2.1 (by kernel_rfl) rfl (one_i64s _) ?_)
  refine bodyPost_ret (results_cell_row (cs := i64s (pOrd true)) rfl _ _ (w.heap.size + 1) _ (0, 0) _ rfl ((blk2 rfl).2.1.set _) Tryz.underlying200 rfl (by kernel_rfl)) rfl ?_
  exact ⟨rfl, Grow.set (blk2 rfl).2.2 (Nat.le_succ _) _⟩
theorem pNum_any (p : Pg) (ok : p.Ok) (w : World) : Calls Tryz.prog 112 #[p.V] w fun e w' => e = .returned (.agg (u64s p.N)) ∧ Grow w w' := by
 obtain ⟨ty, fl, off, va, pa, fs, ms, al⟩ := p
 obtain ⟨k1, k2, k3, k4, k5, k6, k7, k8⟩ := ok
 unfold Pg.V Pg.C
 simp only [] at *
 have z1 : IntKind.u64.wrap (ty : Int) = (ty : Int) := by rw [IntKind.wrap_u64]; omega
 have z2 : IntKind.u64.wrap (fl : Int) = (fl : Int) := by rw [IntKind.wrap_u64]; omega
 clear k1 k2 k3 k4 k5 k6 k7 k8
 go_enter Tryz.func112, Tryz.ntmps112
 go_wp2_with (refine wpList_store_row rfl 198 (.tmp 2) (.tmp 21) rfl (w.heap.size + 1) (u64s (Pg.N ⟨ty, fl, off, va, pa, fs, ms, al⟩)) rfl rfl _ _ (blk2 rfl).2.1 (by kernel_rfl) rfl (one_u64s _) ?_)
 refine bodyPost_ret (results_cell_row (cs := u64s (Pg.N ⟨ty, fl, off, va, pa, fs, ms, al⟩)) rfl _ _ (w.heap.size + 1) _ (0, 0) _ rfl ((blk2 rfl).2.1.set _) Tryz.underlying198 rfl (by kernel_rfl)) rfl ?_
 exact ⟨rfl, Grow.set (blk2 rfl).2.2 (Nat.le_succ _) _⟩
theorem pHdr_any (x0 x1 x2 x3 x4 x5 x6 x7 : Nat) (w : World) (k0 : x0 < 4294967296) (k1 : x1 < 4294967296) :
  Calls Tryz.prog 123 #[.agg (u64s [x0, x1, x2, x3, x4, x5, x6, x7])] w fun e w' => e = .returned (Pg.V ⟨x0, x1, x2, x3, x4, x5, x6, x7⟩) ∧ Grow w w' := by
 have z0 : IntKind.u32.wrap (x0 : Int) = (x0 : Int) := by rw [IntKind.wrap_u32]; omega
 have z1 : IntKind.u32.wrap (x1 : Int) = (x1 : Int) := by rw [IntKind.wrap_u32]; omega
 clear k0 k1
 unfold u64s
 simp only [List.map_cons, List.map_nil]
 go_enter Tryz.func123, Tryz.ntmps123
 go_wp2_with (refine wpList_store_row rfl 130 (.tmp 2) (.tmp 21) rfl (w.heap.size + 1) (Pg.C ⟨x0, x1, x2, x3, x4, x5, x6, x7⟩) rfl rfl _ _ (blk2 rfl).2.1 (by kernel_rfl) rfl (Pg.one _) ?_)
 refine bodyPost_ret (results_cell_row (cs := Pg.C ⟨x0, x1, x2, x3, x4, x5, x6, x7⟩) rfl _ _ (w.heap.size + 1) _ (0, 0) _ rfl ((blk2 rfl).2.1.set _) Tryz.underlying130 rfl (by kernel_rfl)) rfl ?_
 exact ⟨rfl, Grow.set (blk2 rfl).2.2 (Nat.le_succ _) _⟩
theorem wide_any (n : Int) (w : World) : Calls Tryz.prog 141 #[.int .i64 n] w fun e w' => e = .returned (.bool (wid n)) ∧ w = w' := by
 by_cases h1 : n = 1
 ·subst h1
  go_enter Tryz.func141, Tryz.ntmps141
  go_wp2
  go_ret
  exact ⟨rfl, rfl⟩
 by_cases h2 : n = 2
 ·subst h2
  go_enter Tryz.func141, Tryz.ntmps141
  go_wp2
  go_ret
  exact ⟨rfl, rfl⟩
 by_cases h4 : n = 4
 ·subst h4
  go_enter Tryz.func141, Tryz.ntmps141
  go_wp2
  go_ret
  exact ⟨rfl, rfl⟩
 by_cases h8 : n = 8
 ·subst h8
  go_enter Tryz.func141, Tryz.ntmps141
  go_wp2
  go_ret
  exact ⟨rfl, rfl⟩
 have e : wid n = false := by unfold wid; simp [h1, h2, h4, h8]
 have b1 : (n == 1) = false := by simp [h1]
 have b2 : (n == 2) = false := by simp [h2]
 have b4 : (n == 4) = false := by simp [h4]
 have b8 : (n == 8) = false := by simp [h8]
 have E := hid e
 clear e h1 h2 h4 h8
 go_enter Tryz.func141, Tryz.ntmps141
 go_wp2
 go_ret
 exact ⟨ret_bool E.out.symm, rfl⟩
theorem refFits_no (v n : Int) (w : World) (h : wid n = false) :
  Calls Tryz.prog 100 #[.int .u64 v, .int .i64 n] w fun e w' => e = .returned (.bool (fits v n)) ∧ w = w' := by
 have E := hid (show fits v n = false by simp [fits, h])
 have H := hid h
 clear h
 by_cases hn : 0 < n
 ·go_enter Tryz.func100, Tryz.ntmps100
  go_wp2_with (go_at_call 141; refine (wide_any _ _).mono ?_; rintro e w' ⟨rfl, rfl⟩; rw [H.out])
  go_loop [6] (fun i => i = .int .i64 0) (fun _ => 0)
  case atStart => rfl
  case round =>
   obtain rfl := hrel
   go_wp2
   go_ret
   exact ⟨ret_bool E.out.symm, rfl⟩
 ·have hd : decide (0 < n) = false := decide_eq_false hn
  go_enter Tryz.func100, Tryz.ntmps100
  go_wp2_with (go_at_call 141; refine (wide_any _ _).mono ?_; rintro e w' ⟨rfl, rfl⟩; rw [H.out])
  go_loop [6] (fun i => i = .int .i64 0) (fun _ => 0)
  case atStart => rfl
  case round =>
   obtain rfl := hrel
   go_wp2
   go_ret
   exact ⟨ret_bool E.out.symm, rfl⟩
theorem refFits_yes (v n : Nat) (w : World) (h : wid n = true) (hv : v < 18446744073709551616) :
  Calls Tryz.prog 100 #[.int .u64 v, .int .i64 n] w fun e w' => e = .returned (.bool (fits v n)) ∧ w = w' := by
 have hn8 : n ≤ 8 := by have := wid_cases h; omega
 have E := hid (show fits v n = decide (v / 256 ^ n = 0) by
  simp only [fits, h, Bool.true_and, Int.toNat_natCast]
  rw [Bool.eq_iff_iff, decide_eq_true_iff, decide_eq_true_iff]
  have hp : (0 : Nat) < 256 ^ n := Nat.pow_pos (by omega)
  have e : ((256 : Int) ^ n) = ((256 ^ n : Nat) : Int) := by simp
  rw [e, Nat.div_eq_zero_iff]
  omega)
 have H := hid h
 clear h
 go_enter Tryz.func100, Tryz.ntmps100
 go_wp2_with (go_at_call 141; refine (wide_any _ _).mono ?_; rintro e w' ⟨rfl, rfl⟩; rw [H.out])
 go_loop [0, 6] (fun x i => ∃ k : Nat, k ≤ n ∧ i = .int .i64 k ∧ x = .int .u64 (v / 256 ^ k : Nat)) (fun _ i => n - (intOf i).toNat)
 case atStart => exact ⟨0, Nat.zero_le _, rfl, by simp⟩
 case round =>
  obtain ⟨k, hk, rfl, rfl⟩ := hrel
  have hy : v / 256 ^ k ≤ v := Nat.div_le_self _ _
  obtain ⟨y, hy0⟩ : ∃ y, y = v / 256 ^ k := ⟨_, rfl⟩
  rw [← hy0] at hy ⊢
  have HY := hid hy0
  clear hy0
  by_cases hlt : k < n
  ·go_wp2
   go_round
   case rel => exact ⟨k + 1, by omega, by go_num, by rw [Nat.pow_succ, ← Nat.div_div_eq_div_mul, ← HY.out]; go_num⟩
   case measure => simp [intOf]; omega
  ·have HE : Hid (fits v n = ((y : Int) == 0)) := by
    have e : k = n := by omega
    rw [E.out, HY.out, e, Bool.eq_iff_iff]; simp only [decide_eq_true_iff, beq_iff_eq]; exact Int.natCast_eq_zero.symm
   go_wp2
   go_ret
   exact ⟨ret_bool (by rw [HE.out]), rfl⟩
theorem refFits_any (v n : Int) (w : World) (h0 : 0 ≤ v) (h1 : v ≤ 18446744073709551615) :
  Calls Tryz.prog 100 #[.int .u64 v, .int .i64 n] w fun e w' => e = .returned (.bool (fits v n)) ∧ w = w' := by
 cases h : wid n
 ·exact refFits_no v n w h
 ·obtain ⟨N, rfl⟩ : ∃ N : Nat, n = N := ⟨n.toNat, by have := wid_cases h; omega⟩
  obtain ⟨V, rfl⟩ : ∃ N : Nat, v = N := ⟨v.toNat, by omega⟩
  exact refFits_yes V N w h (by omega)
structure Rowed (q : List (Nat × Nat)) : Prop where
 few : q.length ≤ 100
 wide : ∀ k (h : k < q.length), wid q[k].2 = true
 lt : ∀ k (h : k < q.length), q[k].1 < 18446744073709551616
theorem Rowed.wide8 {q : List (Nat × Nat)} (h : Rowed q) (k : Nat) (hk : k < q.length) : q[k].2 ≤ 8 := by
 have := wid_cases (h.wide k hk); omega
theorem rowB_le {q : List (Nat × Nat)} (h : Rowed q) (big : Bool) : ∀ k, k ≤ q.length → (rowB big (q.take k)).length ≤ 8 * k
 | 0, _ => by simp [rowB]
 | k + 1, hk => by
  rw [rowB_succ big q k (by omega), List.length_append, length_putB]
  have := rowB_le h big k (by omega)
  have := h.wide8 k (by omega)
  omega
theorem fits_row (v n : Nat) (h : wid n = true) : fits v n = decide (v < 256 ^ n) := by
 simp only [fits, h, Bool.true_and, Int.toNat_natCast]
 rw [Bool.eq_iff_iff, decide_eq_true_iff, decide_eq_true_iff]
 have e : ((256 : Int) ^ n) = ((256 ^ n : Nat) : Int) := by simp
 rw [e]; omega
def Pg.Q (p : Pg) (wide : Bool) : List (Nat × Nat) := (pOrd wide).map fun i => (p.N.getD i 0, pWid wide i)
def Pg.L (p : Pg) (wide big : Bool) : List UInt8 := rowB big (p.Q wide)
theorem Pg.lenQ (p : Pg) (wide : Bool) : (p.Q wide).length = 8 := by simp [Pg.Q, len_pOrd]
theorem Pg.lenL (p : Pg) (wide big : Bool) : (p.L wide big).length = pSize wide := by
 rw [Pg.L, length_rowB, ← sum_pRow, pRow, Pg.Q, List.map_map]
 rfl
theorem Pg.atN (p : Pg) (ok : p.Ok) (i : Nat) : p.N.getD i 0 < 18446744073709551616 := by
 obtain ⟨k1, k2, k3, k4, k5, k6, k7, k8⟩ := ok
 match i with
 | 0 => show p.ty < _; omega
 | 1 => show p.fl < _; omega
 | 2 => show p.off < _; omega
 | 3 => show p.va < _; omega
 | 4 => show p.pa < _; omega
 | 5 => show p.fs < _; omega
 | 6 => show p.ms < _; omega
 | 7 => show p.al < _; omega
 | _ + 8 => show 0 < _; omega
theorem Pg.rowed (p : Pg) (ok : p.Ok) (wide : Bool) : Rowed (p.Q wide) :=
 ⟨by rw [p.lenQ]; omega, fun k hk => by simp only [Pg.Q, List.getElem_map]; exact pWid_wid _ _, fun k hk => by simp only [Pg.Q, List.getElem_map]; exact p.atN ok _⟩
theorem makeP (wide : Bool) (w : World) : (Instr.makeSlice 33 (.int .i64 0) (.int .i64 (pSize wide : Nat))).run Tryz.prog w = .ok (.slice (some ⟨w.heap.size, 0, none⟩) 0 (pSize wide))
  (w.alloc (.cells (Array.replicate (pSize wide) (.int .u8 0)) 5)) := by cases wide <;> kernel_rfl
def PPut (p : Pg) (wide big : Bool) (w : World) (e : Ending) (w' : World) : Prop :=
 (rowF (p.Q wide) = true ∧ ∃ A c, e = .returned (.tuple #[.slice A (p.L wide big).length c, .nilIface]) ∧ OB w' w.heap.size 5 A (p.L wide big).length c (p.L wide big) ∧ Grow w w') ∨
 (rowF (p.Q wide) = false ∧ e = .returned (.tuple #[.slice none 0 0, .iface 81 (.int .i64 1)]) ∧ Grow w w')
set_option maxHeartbeats 400000 in
theorem pPut_any (p : Pg) (ok : p.Ok) (wide big : Bool) (w : World) : Calls Tryz.prog 56 #[p.V, .agg #[.bool wide, .bool big]] w (PPut p wide big w) := by
 have HR := hid (p.rowed ok wide)
 have HN := hid (fun w => pNum_any p ok w)
 have HSz := hid (fun w => pSize_any wide big w)
 have HOr := hid (fun w => pOrd_any wide big w)
 have HWi := hid (fun i w => pWid_any wide big i w)
 have HSN : Hid ((u64s p.N).size = 8) := hid rfl
 have HON := hid (one_u64s p.N)
 have HLQ := hid (p.lenQ wide)
 have HMk := hid (makeP wide)
 have HSp : Hid (pSize wide ≤ 56) := by cases wide <;> exact hid (by decide)
 have HAO : Hid (∀ k, k < 8 → (i64s (pOrd wide))[k]? = some (.int .i64 ((pOrd wide).getD k 0 : Nat))) := hid (fun k hk => idx_i64s _ _ (by rw [len_pOrd]; exact hk))
 have HOl := hid (pOrd_lt wide)
 have HAN : Hid (∀ i, i < 8 → (u64s p.N)[i]? = some (.int .u64 (p.N.getD i 0 : Nat))) := hid (fun i hi => idx_u64s _ _ hi)
 have HAQ : Hid (∀ k (h : k < (p.Q wide).length), (p.Q wide)[k].1 = p.N.getD ((pOrd wide).getD k 0) 0 ∧ (p.Q wide)[k].2 = pWid wide ((pOrd wide).getD k 0)) := hid (fun k h => by
  have hk : k < (pOrd wide).length := by rw [p.lenQ] at h; rw [len_pOrd]; exact h
  simp only [Pg.Q, List.getElem_map]
  rw [List.getD_eq_getElem?_getD (l := pOrd wide), List.getElem?_eq_getElem hk]
  exact ⟨rfl, rfl⟩)
 have HC1 : Hid (p.C.size = 8) := hid rfl
 unfold PPut Pg.L
 unfold Pg.V
 generalize p.Q wide = q at HR HLQ HAQ ⊢
 generalize u64s p.N = RN at HN HSN HON HAN
 generalize i64s (pOrd wide) = RO at HOr HAO
 generalize pOrd wide = os at HAO HOl HAQ
 generalize p.N = pn at HAN HAQ
 unfold Pg.V at HN
 generalize p.C = C at HN HC1 ⊢
 generalize pSize wide = sz at HSz HMk HSp
 go_enter Tryz.func56, Tryz.ntmps56
 go_wp2_with (refine wpList_load_row rfl 130 (.tmp 2) rfl w.heap.size rfl _ C (0, 0) _ (blk2 rfl).1 Tryz.underlying130 rfl (by rw [HC1.out]; kernel_rfl) ?_)
 generalize hW : World.alloc _ _ = W0
 obtain ⟨b1, bf, hg0⟩ := blk2 hW
 clear hW b1
 refine (HN.out W0).mono ?_
 rintro e w1 ⟨rfl, hg1⟩
 have HBF1 := hid (bf.grow hg1)
 have HG1 : Hid (Grow w w1) := hg0.trans hg1
 clear bf hg0 hg1
 obtain ⟨y0, y1⟩ := (HBF1.out.alloc (.cells RN 198)).c2
 go_wp2_with (refine wpList_store_row rfl 198 (.tmp 6) (.tmp 12) rfl w1.heap.size RN rfl rfl _ _ (Blk.new _ _ _) (by rw [HSN.out]; kernel_rfl) (by rw [HSN.out]; rfl) HON.out ?_; rw [World.setRow_alloc_new])
 clear y0 y1
 refine (HSz.out _).mono ?_
 rintro e w2 ⟨rfl, hg2⟩
 have HBN := hid ((Blk.new w1 198 RN).grow hg2)
 have HBF2 := hid ((HBF1.out.alloc _).grow hg2)
 have HG2 : Hid (Grow w w2) := (HG1.out.trans (Grow.of_alloc _ _)).trans hg2
 have HG6 : Hid (w.heap.size + 1 < w1.heap.size) := HBF1.out.lt
 generalize w1.heap.size = g6 at HBN HG6 ⊢
 clear hg2 HG1 HBF1
 have hmk := HMk.out w2
 obtain ⟨y0, y1⟩ := (HBF2.out.alloc (.cells (Array.replicate sz (.int .u8 0)) 5)).c2
 go_wp2_with fail
 clear y0 y1 hmk HMk
 refine (HOr.out _).mono ?_
 rintro e w3 ⟨rfl, hg3⟩
 have HO3 := hid ((OB.room w2 w.heap.size 5 sz (.int .u8 0) (by have := HSp.out; unfold maxLen; omega) HG2.out.size).keep hg3)
 have HBN3 := hid ((HBN.out.alloc _).grow hg3)
 have HBF3 := hid ((HBF2.out.alloc _).grow hg3)
 have HG3 : Hid (Grow w w3) := (HG2.out.trans (Grow.of_alloc _ _)).trans hg3
 have HD : Hid (w2.heap.size ≠ w.heap.size + 1) := by have := HBF2.out.lt; exact hid (by omega)
 have HD6 : Hid (w2.heap.size ≠ g6) := by have := HBN.out.lt; exact hid (by omega)
 generalize w2.heap.size = g7 at HO3 HD HD6 ⊢
 clear hg3 HG2 HBN HBF2
 go_wp2_with fail
 go_loopw [7, 18] (fun x i wr => ∃ (k : Nat) (A : Option Addr) (c : Nat), k ≤ 8 ∧ i = .int .i64 k ∧ x = .slice A (rowB big (q.take k)).length c ∧ OB wr w.heap.size 5 A (rowB big (q.take k)).length c (rowB big (q.take k)) ∧
  own A ≠ some (w.heap.size + 1) ∧ own A ≠ some g6 ∧ Blk wr (w.heap.size + 1) 23 #[.bool wide, .bool big] ∧ Blk wr g6 198 RN ∧ rowF (q.take k) = true ∧ Grow w wr) (fun _ i _ => 8 - (intOf i).toNat)
 case atStart => exact ⟨0, some ⟨g7, 0, none⟩, sz, by omega, rfl, rfl, HO3.out, fun h => HD.out (by injection h), fun h => HD6.out (by injection h), HBF3.out, HBN3.out, rfl, HG3.out⟩
 case round =>
  obtain ⟨k, A, c, hk, rfl, rfl, ho, hd1, hd2, hbf, hbn, hrf, hg⟩ := hrel
  have HO := hid ho
  have HD1 := hid hd1
  have HD2 := hid hd2
  have HBF := hid hbf
  have HBN2 := hid hbn
  have HRF := hid hrf
  have HG := hid hg
  clear ho hd1 hd2 hbf hbn hrf hg HO3 HBN3 HBF3 HG3
  by_cases hlt : k < 8
  ·have hkq : k < q.length := by rw [HLQ.out]; exact hlt
   have HB := hid (rowB_succ big q k hkq)
   have HF := hid (rowF_succ q k hkq)
   have HW := hid (HR.out.wide k hkq)
   have HZ := hid (fun h => rowF_false hkq h)
   have HLE := hid (rowB_le HR.out big k (by omega))
   have hv := HR.out.lt k hkq
   have hw8 := HR.out.wide8 k hkq
   have HK1 := hid (HAN.out (os.getD k 0) (HOl.out k hlt))
   have HK2 := hid (HAO.out k hlt)
   have ho8 := HOl.out k hlt
   obtain ⟨e1, e2⟩ := HAQ.out k hkq
   rw [HRF.out, Bool.true_and] at HF
   rw [← e1] at HK1
   have HW2 := hid (fun w => HWi.out (os.getD k 0) w)
   rw [← e2] at HW2
   clear e1 e2
   generalize q[k].1 = v at HB HF HZ hv HK1
   generalize q[k].2 = m at HB HF HZ HW hw8 HW2
   generalize os.getD k 0 = i at HK1 HK2 HW2 ho8
   have z1 : (0 : Int) ≤ (i : Int) := by omega
   have z2 : (i : Int) < 8 := by omega
   obtain ⟨y0, y1⟩ := HBF.out.c2
   clear hkq
   go_wp2_with (refine wpList_index rfl 200 3 (.tmp 17) (.tmp 18) rfl 8 _ Tryz.underlying200 Tryz.underlying3 rfl (by kernel_rfl) RO k (.int .i64 (i : Int)) rfl rfl hlt HK2.out ?_)
   clear y0 y1
   refine (HW2.out _).mono ?_
   rintro e w4 ⟨rfl, hg4⟩
   have HO4 := hid (HO.out.keep hg4)
   have HBF4 := hid (HBF.out.grow hg4)
   have HBN4 := hid (HBN2.out.grow hg4)
   have HG4 : Hid (Grow w w4) := HG.out.trans hg4
   clear hg4 HO HBF HBN2 HG
   have y1 : w4.cell? ⟨g6, i, none⟩ = some (.int .u64 (v : Int)) := (HBN4.out.at i).trans HK1.out
   go_wp2_with fail
   refine (fits_any v m _ (by omega) (by omega)).mono ?_
   rintro e w5 ⟨rfl, rfl⟩
   rw [fits_row v m HW.out]
   cases hfit : decide (v < 256 ^ m)
   ·have HZ2 := hid (HZ.out hfit)
    clear hfit
    go_wp2
    go_ret2
    exact .inr ⟨HZ2.out, rfl, HG4.out⟩
   ·rw [hfit] at HF
    clear hfit HZ
    go_wp2_with fail
    clear y1
    refine wp_region_leap (leap_kept (fun j => j = w.heap.size + 1 ∨ j = g6)) [(0, true), (1, true), (2, true), (3, true), (4, true), (5, true), (6, true), (7, false), (8, false), (9, true)] (by kernel_rfl) (by kernel_rfl) (by kernel_rfl) ?_
    have HX : Hid (∀ W, Kept (fun j => j = w.heap.size + 1 ∨ j = g6) w4.drew W → (_ ∧ _) ∧ W.cell? ⟨g6, i, none⟩ = some (.int .u64 (v : Int))) := fun W hW =>
     ⟨(HBF4.out.drew.kept hW (.inl rfl)).c2, ((HBN4.out.drew.kept hW (.inr rfl)).at i).trans HK1.out⟩
    have HO1 : Hid (OB w4.drew _ _ _ _ _ _) := HO4.out
    have HBF1 := hid HBF4.out.drew
    have HBN1 := hid HBN4.out.drew
    have HG1 : Hid (Grow w w4.drew) := HG4.out.trans (Grow.of_drew _)
    generalize w4.drew = w6 at HX HO1 HBF1 HBN1 HG1 ⊢
    clear HO4 HBF4 HBN4 HG4
    repeat (refine chain_take rfl (by rfl) ?_ (fun W hG => ?_) ?_; rotate_left; (obtain ⟨⟨q1, q2⟩, q3⟩ := HX.out W hG; go_simp; rfl); simp only [Act.put, List.setIfInBounds_toArray, List.set_cons_zero, List.set_cons_succ])
    clear HX
    refine chain_only rfl (by rfl) (fun K hK => ?_)
    go_simp
    refine (put_wide v m big _ HW.out (by omega)).mono ?_
    rintro e w7 ⟨A3, c3, rfl, ho3, hb3⟩
    refine hK _ _ (Kept.of_grow hb3) ?_
    clear hK K
    have HO3 := hid ho3
    have HO4 := hid (HO1.out.keep hb3)
    have HBF7 := hid (HBF1.out.grow hb3)
    have HBN7 := hid (HBN1.out.grow hb3)
    have HG7 : Hid (Grow w w7) := HG1.out.trans hb3
    clear ho3 hb3 HO1 HBF1 HBN1 HG1
    rw [Int.toNat_natCast] at HO3
    refine chain_only rfl (by rfl) (fun K hK => ?_)
    refine wp_appendS w7 (.tmp 31) (.tmp 38) 33 rfl w.heap.size 5 Tryz.underlying33 (by kernel_rfl) A _ c _ rfl HO4.out w7.heap.size A3 m c3 _ rfl HO3.out.rb (by have := HLE.out; omega) HG7.out.size ?_
    intro A5 c5 w8 ho5 hb5 hk5 hn5
    have HBF8 : Hid (Blk w8 (w.heap.size + 1) 23 #[.bool wide, .bool big]) := (hk5 _ HBF7.out.lt HD1.out).trans HBF7.out
    have HBN8 : Hid (Blk w8 g6 198 RN) := (hk5 _ HBN7.out.lt HD2.out).trans HBN7.out
    refine hK _ _ ⟨hb5.size, fun j hj hj2 => by
     rcases hj2 with rfl | rfl
     ·exact hk5 _ hj HD1.out
     ·exact hk5 _ hj HD2.out⟩ ?_
    clear hK K
    have HD1' : Hid (own A5 ≠ some (w.heap.size + 1)) := by
     rcases hn5 with e | e
     ·rw [e]; exact HD1
     ·rw [e]; have := HBF7.out.lt; exact fun h => by injection h; omega
    have HD2' : Hid (own A5 ≠ some g6) := by
     rcases hn5 with e | e
     ·rw [e]; exact HD2
     ·rw [e]; have := HBN7.out.lt; exact fun h => by injection h; omega
    have HG8 : Hid (Grow w w8) := HG7.out.trans' hb5
    rw [← HB.out] at ho5
    have hm : (rowB big (q.take k)).length + m = (rowB big (q.take (k + 1))).length := by rw [HB.out, List.length_append, length_putB]
    rw [hm] at ho5 ⊢
    have HO5 := hid ho5
    clear ho5 hb5 hk5 hn5 hm HO3 HO4 HG7 HBF7 HBN7
    repeat (refine chain_take rfl (by rfl) ?_ (fun W hG => ?_) ?_; rotate_left; (go_simp; rfl); simp only [Act.put, List.setIfInBounds_toArray, List.set_cons_zero, List.set_cons_succ])
    refine chain_done ?_
    go_wp2
    go_roundw
    case rel => exact ⟨k + 1, A5, c5, by omega, by go_num, rfl, HO5.out, HD1'.out, HD2'.out, HBF8.out, HBN8.out, HF.out, HG8.out⟩
    case measure => simp [intOf]; omega
  ·have HK : Hid (q.take k = q) := by
    have e : k = q.length := by rw [HLQ.out]; omega
    rw [e]
    exact List.take_length
   rw [HK.out] at HO HRF ⊢
   go_wp2
   go_ret2
   exact .inl ⟨HRF.out, A, c, rfl, HO.out, HG.out⟩
def laidIn (os ns : List Nat) (n k : Nat) : List Nat := (List.range n).map fun i => if i ∈ os.take k then ns.getD i 0 else 0
theorem laidIn_zero (os ns : List Nat) (n : Nat) : laidIn os ns n 0 = List.replicate n 0 := by
 apply List.ext_getElem?
 intro i
 by_cases h : i < n
 ·simp [laidIn, h]
 ·simp [laidIn, h]
theorem laidIn_succ {os ns : List Nat} {n k o v : Nat} (ho : os[k]? = some o) (hv : ns.getD o 0 = v) : (laidIn os ns n k).set o v = laidIn os ns n (k + 1) := by
 obtain ⟨hk, e⟩ := List.getElem?_eq_some_iff.1 ho
 apply List.ext_getElem?
 intro i
 rw [List.getElem?_set]
 simp only [laidIn, List.length_map, List.length_range, List.getElem?_map]
 rw [take_snoc_nat os k hk, e]
 by_cases h : i < n
 ·by_cases e2 : o = i
  ·subst e2
   rw [if_pos rfl, if_pos h, List.getElem?_range h]
   subst hv
   simp
  ·rw [if_neg e2, List.getElem?_range h]
   have e3 : ¬ i = o := fun h => e2 h.symm
   simp [e3]
 ·rw [List.getElem?_eq_none (by simp; omega)]
  by_cases e2 : o = i
  ·subst e2; rw [if_pos rfl, if_neg h]; rfl
  ·rw [if_neg e2]
   rfl
theorem laidIn_all {os ns : List Nat} {n : Nat} (h : ∀ i, i < n → i ∈ os) (hn : ns.length = n) : laidIn os ns n os.length = ns := by
 apply List.ext_getElem?
 intro i
 by_cases hi : i < n
 ·have hm := h i hi
  simp [laidIn, hi, hm, show i < ns.length by omega]
 ·rw [List.getElem?_eq_none (by simp [laidIn]; omega), List.getElem?_eq_none (by omega)]
theorem len_laidIn (os ns : List Nat) (n k : Nat) : (laidIn os ns n k).length = n := by simp [laidIn]
def pX (l : List UInt8) (p : Nat) (wide big : Bool) : List Nat := nums l big p (pRow wide)
def pgOf (l : List UInt8) (p : Nat) (wide big : Bool) : Pg :=
 if wide then ⟨(pX l p wide big).getD 0 0, (pX l p wide big).getD 1 0, (pX l p wide big).getD 2 0, (pX l p wide big).getD 3 0, (pX l p wide big).getD 4 0, (pX l p wide big).getD 5 0, (pX l p wide big).getD 6 0, (pX l p wide big).getD 7 0⟩
 else ⟨(pX l p wide big).getD 0 0, (pX l p wide big).getD 6 0, (pX l p wide big).getD 1 0, (pX l p wide big).getD 2 0, (pX l p wide big).getD 3 0, (pX l p wide big).getD 4 0, (pX l p wide big).getD 5 0, (pX l p wide big).getD 7 0⟩
theorem pgOf_at (l : List UInt8) (p : Nat) (wide big : Bool) (k : Nat) (h : k < 8) : (pgOf l p wide big).N.getD ((pOrd wide).getD k 0) 0 = (pX l p wide big).getD k 0 := by
 cases wide <;> (match k, h with
  | 0, _ => rfl
  | 1, _ => rfl
  | 2, _ => rfl
  | 3, _ => rfl
  | 4, _ => rfl
  | 5, _ => rfl
  | 6, _ => rfl
  | 7, _ => rfl)
theorem pX_lt (l : List UInt8) (p : Nat) (wide big : Bool) (k : Nat) (h : k < 8) : (pX l p wide big).getD k 0 < 256 ^ ((pRow wide).getD k 0) := by
 have h1 : k < (nums l big p (pRow wide)).length := by rw [length_nums, len_pRow]; exact h
 have := nums_lt l big (pRow wide) p k h1
 rw [pX, List.getD_eq_getElem?_getD, List.getElem?_eq_getElem h1]
 exact this
theorem pX_64 (l : List UInt8) (p : Nat) (wide big : Bool) (k : Nat) (h : k < 8) : (pX l p wide big).getD k 0 < 18446744073709551616 := by
 refine Nat.lt_of_lt_of_le (pX_lt l p wide big k h) (show _ ≤ 256 ^ 8 from Nat.pow_le_pow_right (by decide) ?_)
 have e : (pRow wide).getD k 0 = pWid wide ((pOrd wide).getD k 0) := by
  rw [pRow, List.getD_eq_getElem?_getD, List.getD_eq_getElem?_getD, List.getElem?_map, List.getElem?_eq_getElem (by rw [len_pOrd]; exact h)]
  rfl
 rw [e]
 unfold pWid
 split <;> omega
theorem pgOf_ok (l : List UInt8) (p : Nat) (wide big : Bool) : (pgOf l p wide big).Ok := by
 have h := pX_64 l p wide big
 have h0 := pX_lt l p wide big 0 (by omega)
 cases wide
 ·have h6 := pX_lt l p false big 6 (by omega)
  exact ⟨h0, h6, h 1 (by omega), h 2 (by omega), h 3 (by omega), h 4 (by omega), h 5 (by omega), h 7 (by omega)⟩
 ·have h1 := pX_lt l p true big 1 (by omega)
  exact ⟨h0, h1, h 2 (by omega), h 3 (by omega), h 4 (by omega), h 5 (by omega), h 6 (by omega), h 7 (by omega)⟩
theorem pOrd_all (wide : Bool) (i : Nat) (h : i < 8) : i ∈ pOrd wide := by
 cases wide <;> (match i, h with
  | 0, _ => decide
  | 1, _ => decide
  | 2, _ => decide
  | 3, _ => decide
  | 4, _ => decide
  | 5, _ => decide
  | 6, _ => decide
  | 7, _ => decide)
end Go.Proofs.YtfglppjilcaafaaGreatDoor
