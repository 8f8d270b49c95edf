/-
  Several texts in one: The contract of wire; Contracts of the document's own Wide (layer 1); The contract of the document's own Fits (layer 1); The contract of the document's own Put (layer 1); Rows of the call's own, of several kinds; Rows that a call cloned.
-/
import Derived.Test.YtfpihkbpelbcbaaRtG4
import Derived.Test.YtfpihkbpelbcbaaRtG1
import Derived.Deep.OwnRows
import Derived.Test.YtfpihkbpelbcbaaRtG3
import Derived.Test.YtfpihkbpelbcbaaRtG2
import Derived.Laws.Bits64b
import Derived.WalkKit
import Derived.BigQuiet
import Derived.Deep.QuietTactic
import Derived.Lib.Hide
import Derived.Laws.MakeOwn
import Derived.Test.YtfpihkbpelbcbaaRows
import Derived.Laws.ResultCell
namespace Go.Proofs.Ytfpihkbpelbcbaa
open Go.Lib (hid)
open Go.RowKit Go.Deep
def Made (l : List UInt8) (w : World) (e : Ending) (w' : World) : Prop :=
 ∃ A c, e = .returned (.slice A l.length c) ∧ OB w' w.heap.size 5 A l.length c l ∧ Below w.heap.size w w'
def putL (v n : Int) (big : Bool) : List UInt8 := if wid n then putB v.toNat n.toNat big else []
theorem put_no (v n : Int) (big : Bool) (w : World) (h : wid n = false) :
  Calls Try.prog 88 #[.int .u64 v, .int .i64 n, .bool big] w fun e w' => e = .returned (.slice none 0 0) ∧ w = w' := by
 have H := hid h
 clear h
 go_enter Try.func88, Try.ntmps88
 go_wp2_with (go_at_call 86; refine (isWidth_any _ _).mono ?_; rintro e w' ⟨rfl, rfl⟩; rw [H.out])
 go_ret
 exact ⟨rfl, rfl⟩
def wrote (l : List UInt8) (k j : Nat) : Value := .int .u8 (if j < k then (l.getD j 0).toNat else 0 : Nat)
theorem shr_fact (v r : Nat) (hr : r < 8) : Op.shift .shr .u64 (v : Int) .u64 (8 * (r : Nat) : Int) = pure (.int .u64 ((v / 256 ^ r : Nat) : Int)) := by
 rw [shift_shr_any _ _ _ _ (by omega), show min ((8 * (r : Nat) : Int)).toNat IntKind.u64.bits = 8 * r by simp [IntKind.bits]; omega]
 congr 2
 rw [pow256]
 simp
set_option maxHeartbeats 400000 in
theorem put_yes (v n : Nat) (big : Bool) (w : World) (h : wid n = true) :
  Calls Try.prog 88 #[.int .u64 v, .int .i64 n, .bool big] w fun e w' => e = .returned (.slice (some ⟨w.heap.size, 0, none⟩) n n) ∧
   w'.rowIs w.heap.size 5 n (wrote (putB v n big) n) ∧ Below w.heap.size w w' := by
 have hn8 : n ≤ 8 := by have := wid_cases h; omega
 have H := hid h
 have hmk : ∀ W : World, (Instr.makeSlice 44 (.int .i64 (n : Int)) (.int .i64 (n : Int))).run Try.prog W = .ok (.slice (some ⟨W.heap.size, 0, none⟩) n n) (W.alloc (.cells (madeCells #[.int .u8 0] n) 5)) :=
  fun W => run_make_row' 44 5 (.int .u8 0) 1 Try.underlying44 (by kernel_rfl) rfl _ _ n (by omega) (by omega) W
 have h0 : (w.alloc (.cells (madeCells #[.int .u8 0] n) 5)).rowIs w.heap.size 5 n (wrote (putB v n big) 0) := (World.rowIs_made w (.int .u8 0) n 5).congr fun i _ => by simp [wrote]
 have H0 := hid h0
 clear h h0
 go_enter Try.func88, Try.ntmps88
 go_wp2_with (go_at_call 86; refine (isWidth_any _ _).mono ?_; rintro e w' ⟨rfl, rfl⟩; rw [H.out])
 obtain ⟨g, hg⟩ : ∃ g, g = w.heap.size := ⟨_, rfl⟩
 rw [← hg] at H0
 have HG := hid hg
 rw [← hg]
 clear hmk
 go_loopw [15] (fun i wr => ∃ k : Nat, k ≤ n ∧ i = .int .i64 k ∧ wr.rowIs g 5 n (wrote (putB v n big) k) ∧ Below g w wr) (fun i _ => n - (intOf i).toNat)
 case atStart => exact ⟨0, Nat.zero_le _, rfl, H0.out, (Below.refl _ _).alloc (by omega) _⟩
 case round =>
  obtain ⟨k, hk, rfl, hrow, hbel⟩ := hrel
  clear hg
  by_cases hlt : k < n
  ·have hcl := hrow.cell hlt
   have hfz := hrow.frozen k
   have HR := hid hrow
   have HB := hid hbel
   have z7 := shr_fact v (rank k n big) (by have := rank_lt k n big hlt; omega)
   obtain ⟨y, hy⟩ : ∃ y, y = v / 256 ^ rank k n big := ⟨_, rfl⟩
   have HY := hid hy
   rw [← hy] at z7
   clear hrow hbel hy
   go_wp2_with (go_at_call 87; refine (shift_any k n big _ hlt hn8).mono ?_; rintro e w' ⟨rfl, rfl⟩)
   go_roundw
   case rel =>
    refine ⟨k + 1, by omega, by go_num, (HR.out.set k _).congr fun j hj => ?_, HB.out.setCell (Nat.le_refl _) _⟩
    have hyv : (putB v n big).getD j 0 = UInt8.ofNat (v / 256 ^ rank j n big) := by rw [List.getD_eq_getElem?_getD, putB_at v n j big hj]; rfl
    by_cases e : j = k
    ·subst e
     simp only [if_true, wrote, Nat.lt_succ_self, hyv, HY.out, toNat_ofNat8]
     simp
    ·rw [if_neg e]
     by_cases e2 : j < k
     ·simp only [wrote, if_pos e2, if_pos (show j < k + 1 by omega)]
     ·simp only [wrote, if_neg e2, if_neg (show ¬ j < k + 1 by omega)]
   case measure => simp [intOf]; omega
  ·have HR : Hid (wr.rowIs g 5 n (wrote (putB v n big) n)) := by
    have e : k = n := by omega
    rw [e] at hrow
    exact hrow
   have HB := hid hbel
   clear hrow hbel
   go_wp2
   go_ret
   rw [← HG.out]
   exact ⟨rfl, HR.out, HB.out⟩
theorem put_any (v n : Int) (big : Bool) (w : World) (h0 : 0 ≤ v) :
  Calls Try.prog 88 #[.int .u64 v, .int .i64 n, .bool big] w (Made (putL v n big) w) := by
 cases h : wid n
 ·have e : putL v n big = [] := by simp [putL, h]
  rw [e]
  exact (put_no v n big w h).mono fun e w' ⟨h1, h2⟩ => ⟨none, 0, h1, OB.nil, h2 ▸ Below.refl _ _⟩
 ·obtain ⟨N, rfl⟩ : ∃ N : Nat, n = N := ⟨n.toNat, by have := wid_cases h; omega⟩
  obtain ⟨V, rfl⟩ : ∃ N : Nat, v = N := ⟨v.toNat, by omega⟩
  have hN8 : N ≤ 8 := by have := wid_cases h; omega
  have e : putL V N big = putB V N big := by simp [putL, h]
  rw [e]
  refine (put_yes V N big w h).mono fun e w' ⟨h1, h2, h3⟩ => ?_
  have hlen := length_putB V N big
  refine ⟨some ⟨w.heap.size, 0, none⟩, N, by rw [hlen]; exact h1, ⟨by simp, .inr ?_⟩, h3⟩
  obtain ⟨c, hb, hn, hc⟩ := h2
  rw [hlen]
  refine ⟨w.heap.size, N, c, rfl, Nat.le_refl _, hb, Nat.le_refl _, by unfold maxLen; omega, by omega, ?_⟩
  apply List.ext_getElem?
  intro i
  by_cases hi : i < N
  ·rw [List.getElem?_take_of_lt (by omega), Array.getElem?_toList, hc i hi]
   have := putB_at V N i big hi
   simp [wrote, hi, this, byt]
  ·rw [List.getElem?_eq_none (by simp; omega), List.getElem?_eq_none (by simp; omega)]
end Go.Proofs.Ytfpihkbpelbcbaa
namespace Go.Proofs.Ytfpihkbpelbcbaa
open Go.Lib (hid)
open Go.RowKit
theorem wide_any (n : Int) (w : World) : Calls Try.prog 52 #[.int .i64 n] w fun e w' => e = .returned (.bool (wid n)) ∧ w = w' := by
 by_cases h1 : n = 1
 ·subst h1
  go_enter Try.func52, Try.ntmps52
  go_wp2
  go_ret
  exact ⟨rfl, rfl⟩
 by_cases h2 : n = 2
 ·subst h2
  go_enter Try.func52, Try.ntmps52
  go_wp2
  go_ret
  exact ⟨rfl, rfl⟩
 by_cases h4 : n = 4
 ·subst h4
  go_enter Try.func52, Try.ntmps52
  go_wp2
  go_ret
  exact ⟨rfl, rfl⟩
 by_cases h8 : n = 8
 ·subst h8
  go_enter Try.func52, Try.ntmps52
  go_wp2
  go_ret
  exact ⟨rfl, rfl⟩
 have e : wid n = false := by unfold wid; simp [h1, h2, h4, h8]
 have b1 : (n == 1) = false := by simp [h1]
 have b2 : (n == 2) = false := by simp [h2]
 have b4 : (n == 4) = false := by simp [h4]
 have b8 : (n == 8) = false := by simp [h8]
 have E := hid e
 clear e h1 h2 h4 h8
 go_enter Try.func52, Try.ntmps52
 go_wp2
 go_ret
 exact ⟨ret_bool E.out.symm, rfl⟩
theorem refFits_no (v n : Int) (w : World) (h : wid n = false) :
  Calls Try.prog 32 #[.int .u64 v, .int .i64 n] w fun e w' => e = .returned (.bool (fits v n)) ∧ w = w' := by
 have E := hid (show fits v n = false by simp [fits, h])
 have H := hid h
 clear h
 by_cases hn : 0 < n
 ·go_enter Try.func32, Try.ntmps32
  go_wp2_with (go_at_call 52; refine (wide_any _ _).mono ?_; rintro e w' ⟨rfl, rfl⟩; rw [H.out])
  go_loop [6] (fun i => i = .int .i64 0) (fun _ => 0)
  case atStart => rfl
  case round =>
   obtain rfl := hrel
   go_wp2
   go_ret
   exact ⟨ret_bool E.out.symm, rfl⟩
 ·have hd : decide (0 < n) = false := decide_eq_false hn
  go_enter Try.func32, Try.ntmps32
  go_wp2_with (go_at_call 52; refine (wide_any _ _).mono ?_; rintro e w' ⟨rfl, rfl⟩; rw [H.out])
  go_loop [6] (fun i => i = .int .i64 0) (fun _ => 0)
  case atStart => rfl
  case round =>
   obtain rfl := hrel
   go_wp2
   go_ret
   exact ⟨ret_bool E.out.symm, rfl⟩
theorem refFits_yes (v n : Nat) (w : World) (h : wid n = true) (hv : v < 18446744073709551616) :
  Calls Try.prog 32 #[.int .u64 v, .int .i64 n] w fun e w' => e = .returned (.bool (fits v n)) ∧ w = w' := by
 have hn8 : n ≤ 8 := by have := wid_cases h; omega
 have E := hid (show fits v n = decide (v / 256 ^ n = 0) by
  simp only [fits, h, Bool.true_and, Int.toNat_natCast]
  rw [Bool.eq_iff_iff, decide_eq_true_iff, decide_eq_true_iff]
  have hp : (0 : Nat) < 256 ^ n := Nat.pow_pos (by omega)
  have e : ((256 : Int) ^ n) = ((256 ^ n : Nat) : Int) := by simp
  rw [e, Nat.div_eq_zero_iff]
  omega)
 have H := hid h
 clear h
 go_enter Try.func32, Try.ntmps32
 go_wp2_with (go_at_call 52; refine (wide_any _ _).mono ?_; rintro e w' ⟨rfl, rfl⟩; rw [H.out])
 go_loop [0, 6] (fun x i => ∃ k : Nat, k ≤ n ∧ i = .int .i64 k ∧ x = .int .u64 (v / 256 ^ k : Nat)) (fun _ i => n - (intOf i).toNat)
 case atStart => exact ⟨0, Nat.zero_le _, rfl, by simp⟩
 case round =>
  obtain ⟨k, hk, rfl, rfl⟩ := hrel
  have hy : v / 256 ^ k ≤ v := Nat.div_le_self _ _
  obtain ⟨y, hy0⟩ : ∃ y, y = v / 256 ^ k := ⟨_, rfl⟩
  rw [← hy0] at hy ⊢
  have HY := hid hy0
  clear hy0
  by_cases hlt : k < n
  ·go_wp2
   go_round
   case rel => exact ⟨k + 1, by omega, by go_num, by rw [Nat.pow_succ, ← Nat.div_div_eq_div_mul, ← HY.out]; go_num⟩
   case measure => simp [intOf]; omega
  ·have HE : Hid (fits v n = ((y : Int) == 0)) := by
    have e : k = n := by omega
    rw [E.out, HY.out, e, Bool.eq_iff_iff]; simp only [decide_eq_true_iff, beq_iff_eq]; exact Int.natCast_eq_zero.symm
   go_wp2
   go_ret
   exact ⟨ret_bool (by rw [HE.out]), rfl⟩
theorem refFits_any (v n : Int) (w : World) (h0 : 0 ≤ v) (h1 : v ≤ 18446744073709551615) :
  Calls Try.prog 32 #[.int .u64 v, .int .i64 n] w fun e w' => e = .returned (.bool (fits v n)) ∧ w = w' := by
 cases h : wid n
 ·exact refFits_no v n w h
 ·obtain ⟨N, rfl⟩ : ∃ N : Nat, n = N := ⟨n.toNat, by have := wid_cases h; omega⟩
  obtain ⟨V, rfl⟩ : ∃ N : Nat, v = N := ⟨v.toNat, by omega⟩
  exact refFits_yes V N w h (by omega)
theorem low_snoc : ∀ (n v : Nat), low (n + 1) v = low n v ++ [UInt8.ofNat (v / 256 ^ n)]
 | 0, v => by simp [low]
 | n + 1, v => by
  rw [low, low_snoc n (v / 256), low, List.cons_append, Nat.div_div_eq_div_mul, Nat.pow_succ, Nat.mul_comm 256]
theorem byt_ofNat (y : Nat) : byt (UInt8.ofNat y) = .int .u8 ((y : Int) % 256) := by
 unfold byt; rw [toNat_ofNat8]; simp
theorem RB.one (w : World) (t : TypeId) (y : Nat) : RB (w.alloc (.cells #[.int .u8 ((y : Int) % 256)] t)) (w.heap.size + 1) (some ⟨w.heap.size, 0, none⟩) 1 1 [UInt8.ofNat y] := by
 rw [← byt_ofNat]; exact RB.lit w t [UInt8.ofNat y] (by unfold maxLen; simp)
theorem OB.one (w : World) (base : Nat) (t : TypeId) (y : Nat) (hb : base ≤ w.heap.size) : OB (w.alloc (.cells #[.int .u8 ((y : Int) % 256)] t)) base t (some ⟨w.heap.size, 0, none⟩) 1 1 [UInt8.ofNat y] := by
 rw [← byt_ofNat]; exact OB.lit w base t [UInt8.ofNat y] (by unfold maxLen; simp) hb
set_option maxHeartbeats 400000 in
theorem refPut_yes (v n : Nat) (big : Bool) (w : World) (h : wid n = true) (hv : v < 18446744073709551616) :
  Calls Try.prog 53 #[.int .u64 v, .int .i64 n, .bool big] w (Made (putB v n big) w) := by
 have hn8 : n ≤ 8 := by have := wid_cases h; omega
 have H := hid h
 clear h
 cases big
 ·go_enter Try.func53, Try.ntmps53
  go_wp2_with (go_at_call 52; refine (wide_any _ _).mono ?_; rintro e w' ⟨rfl, rfl⟩; rw [H.out])
  go_loopw [0, 8, 9] (fun x o i wr => ∃ (k : Nat) (A : Option Addr) (c : Nat), k ≤ n ∧ i = .int .i64 k ∧ x = .int .u64 (v / 256 ^ k : Nat) ∧ o = .slice A k c ∧ OB wr w.heap.size 5 A k c (low k v) ∧ Below w.heap.size w wr) (fun _ _ i _ => n - (intOf i).toNat)
  case atStart => exact ⟨0, none, 0, Nat.zero_le _, rfl, by simp, rfl, OB.nil, Below.refl _ _⟩
  case round =>
   obtain ⟨k, A, c, hk, rfl, rfl, rfl, hown, hbel⟩ := hrel
   have hy : v / 256 ^ k ≤ v := Nat.div_le_self _ _
   obtain ⟨y, hy0⟩ : ∃ y, y = v / 256 ^ k := ⟨_, rfl⟩
   rw [← hy0] at hy ⊢
   have HY := hid hy0
   have HO := hid hown
   have HB := hid hbel
   clear hy0 hown hbel
   by_cases hlt : k < n
   ·have HL := hid (show low k v ++ [UInt8.ofNat y] = low (k + 1) v from (by rw [low_snoc, ← HY.out]))
    go_wp2_with (at_builtin; refine wpList_appendB _ rfl (.tmp 26) (.tmp 30) 44 rfl w.heap.size 5 Try.underlying44 (by kernel_rfl) A k c (low k v) rfl (HO.out.alloc _) _ _ 1 1 [UInt8.ofNat y] rfl (RB.one wr 5 y) (by omega) (by have := HB.out.size; simp; omega) ?_; intro A2 c2 w2 ho2 hb2; rw [HL.out] at ho2; have HO2 := hid ho2; have HB2 := hid hb2; clear ho2 hb2)
    go_roundw
    case rel => exact ⟨k + 1, A2, c2, by omega, by go_num, by rw [Nat.pow_succ, ← Nat.div_div_eq_div_mul, ← HY.out]; go_num, rfl, HO2.out, (HB.out.alloc HB.out.size _).trans HB2.out⟩
    case measure => simp [intOf]; omega
   ·have HE : Hid (OB wr w.heap.size 5 A n c (putB v n false)) := by
     have e : k = n := by omega
     have := HO.out
     rw [e] at this
     exact this
    have e : k = n := by omega
    have HK := hid e
    clear e
    go_wp2
    go_ret
    refine ⟨A, c, ?_, ?_, HB.out⟩
    ·rw [length_putB, ← HK.out]; rfl
    ·rw [length_putB]; exact HE.out
 ·go_enter Try.func53, Try.ntmps53
  go_wp2_with (go_at_call 52; refine (wide_any _ _).mono ?_; rintro e w' ⟨rfl, rfl⟩; rw [H.out])
  go_loopw [0, 8, 9] (fun x o i wr => ∃ (k : Nat) (A : Option Addr) (c : Nat), k ≤ n ∧ i = .int .i64 k ∧ x = .int .u64 (v / 256 ^ k : Nat) ∧ o = .slice A k c ∧ OB wr w.heap.size 5 A k c ((low k v).reverse) ∧ Below w.heap.size w wr) (fun _ _ i _ => n - (intOf i).toNat)
  case atStart => exact ⟨0, none, 0, Nat.zero_le _, rfl, by simp, rfl, OB.nil, Below.refl _ _⟩
  case round =>
   obtain ⟨k, A, c, hk, rfl, rfl, rfl, hown, hbel⟩ := hrel
   have hy : v / 256 ^ k ≤ v := Nat.div_le_self _ _
   obtain ⟨y, hy0⟩ : ∃ y, y = v / 256 ^ k := ⟨_, rfl⟩
   rw [← hy0] at hy ⊢
   have HY := hid hy0
   have HO := hid hown
   have HB := hid hbel
   clear hy0 hown hbel
   by_cases hlt : k < n
   ·have HL := hid (show [UInt8.ofNat y] ++ (low k v).reverse = (low (k + 1) v).reverse from (by rw [low_snoc, List.reverse_append, ← HY.out]; rfl))
    go_wp2_with (at_builtin; refine wpList_appendB _ rfl (.tmp 23) (.tmp 24) 44 rfl w.heap.size 5 Try.underlying44 (by kernel_rfl) _ 1 1 [UInt8.ofNat y] rfl (OB.one wr w.heap.size 5 y HB.out.size) _ A k c ((low k v).reverse) rfl (HO.out.alloc _).rb (by omega) (by have := HB.out.size; simp; omega) ?_; intro A2 c2 w2 ho2 hb2; rw [HL.out] at ho2; have HO2 := hid ho2; have HB2 := hid hb2; clear ho2 hb2)
    go_roundw
    case rel => exact ⟨k + 1, A2, c2, by omega, by go_num, by rw [Nat.pow_succ, ← Nat.div_div_eq_div_mul, ← HY.out]; go_num, by rw [Nat.add_comm], by have := HO2.out; rwa [Nat.add_comm] at this, (HB.out.alloc HB.out.size _).trans HB2.out⟩
    case measure => simp [intOf]; omega
   ·have HE : Hid (OB wr w.heap.size 5 A n c (putB v n true)) := by
     have e : k = n := by omega
     have := HO.out
     rw [e] at this
     exact this
    have e : k = n := by omega
    have HK := hid e
    clear e
    go_wp2
    go_ret
    refine ⟨A, c, ?_, ?_, HB.out⟩
    ·rw [length_putB, ← HK.out]; rfl
    ·rw [length_putB]; exact HE.out
theorem refPut_no (v n : Int) (big : Bool) (w : World) (h : wid n = false) :
  Calls Try.prog 53 #[.int .u64 v, .int .i64 n, .bool big] w fun e w' => e = .returned (.slice none 0 0) ∧ w = w' := by
 have H := hid h
 clear h
 go_enter Try.func53, Try.ntmps53
 go_wp2_with (go_at_call 52; refine (wide_any _ _).mono ?_; rintro e w' ⟨rfl, rfl⟩; rw [H.out])
 go_ret
 exact ⟨rfl, rfl⟩
theorem refPut_any (v n : Int) (big : Bool) (w : World) (h0 : 0 ≤ v) (hv : v ≤ 18446744073709551615) :
  Calls Try.prog 53 #[.int .u64 v, .int .i64 n, .bool big] w (Made (putL v n big) w) := by
 cases h : wid n
 ·have e : putL v n big = [] := by simp [putL, h]
  rw [e]
  exact (refPut_no v n big w h).mono fun e w' ⟨h1, h2⟩ => ⟨none, 0, h1, OB.nil, h2 ▸ Below.refl _ _⟩
 ·obtain ⟨N, rfl⟩ : ∃ N : Nat, n = N := ⟨n.toNat, by have := wid_cases h; omega⟩
  obtain ⟨V, rfl⟩ : ∃ N : Nat, v = N := ⟨v.toNat, by omega⟩
  have e : putL V N big = putB V N big := by simp [putL, h]
  rw [e]
  exact refPut_yes V N big w h (by omega)
set_option linter.unusedVariables false
theorem OB.from_ {w : World} {base : Nat} {e : TypeId} {A : Option Addr} {n c : Nat} {l : List UInt8} (h : OB w base e A n c l) {g : Nat} (hg : own A = some g) : base ≤ g ∧ g < w.heap.size := by
 rcases h.2 with ⟨hv, _⟩ | ⟨g', cap, cur, hv, hb, hh, _⟩
 ·injection hv with e1 _ _
  subst e1
  cases hg
 ·injection hv with e1 _ _
  subst e1
  have e3 : g' = g := Option.some.inj hg
  subst e3
  refine ⟨hb, ?_⟩
  rcases Nat.lt_or_ge g' w.heap.size with h1 | h1
  ·exact h1
  ·rw [Array.getElem?_eq_none h1] at hh; cases hh
section
variable {W W' : World} {base : Nat}
theorem ZO.kinds {b1 b2 : Nat} {e e' : TypeId} {z z' : Nat} {A A' : Option Addr} {n c n' c' : Nat} {R R' : List (Array Value)} (h : ZO W b1 e z A n c R) (h' : ZO W b2 e' z' A' n' c' R') (ht : e ≠ e') : own A = none ∨ own A ≠ own A' := by
 rcases h.1.2 with ⟨hv, _⟩ | ⟨g, cap, cur, hv, _, hh, _⟩
 ·injection hv with e1 _ _
  subst e1
  exact .inl rfl
 ·injection hv with e1 _ _
  subst e1
  refine .inr fun hA => ?_
  rcases h'.1.2 with ⟨hv', _⟩ | ⟨g', cap', cur', hv', _, hh', _⟩
  ·injection hv' with e1 _ _
   subst e1
   cases hA
  ·injection hv' with e1 _ _
   subst e1
   have e3 : g = g' := Option.some.inj hA
   subst e3
   rw [hh] at hh'
   injection hh' with hh'
   injection hh' with _ hh'
   exact ht hh'
theorem ZO.past {b1 : Nat} {e : TypeId} {z : Nat} {A : Option Addr} {n c : Nat} {R : List (Array Value)} {row : Option Nat} (h : ZO W b1 e z A n c R) (hg : W.grownBy W' row) (hne : own A = none ∨ own A ≠ row) : ZO W' b1 e z A n c R := ⟨World.ownsRow.kept h.1 hg (by rw [own_slice]; exact hne), h.2⟩
end
theorem OB.kindNe {w : World} {base base' : Nat} {e e' : TypeId} {z : Nat} {A A' : Option Addr} {n c n' c' : Nat} {l : List UInt8} {R : List (Array Value)} (h : OB w base e A n c l) (h' : ZO w base' e' z A' n' c' R) (ht : e ≠ e') : own A = none ∨ own A ≠ own A' := by
 rcases h.2 with ⟨hv, _⟩ | ⟨g, cap, cur, hv, _, hh, _⟩
 ·injection hv with e1 _ _
  subst e1
  exact .inl rfl
 ·injection hv with e1 _ _
  subst e1
  refine .inr fun hA => ?_
  rcases h'.1.2 with ⟨hv', _⟩ | ⟨g', cap', cur', hv', _, hh', _⟩
  ·injection hv' with e1 _ _
   subst e1
   cases hA
  ·injection hv' with e1 _ _
   subst e1
   have e3 : g = g' := Option.some.inj hA
   subst e3
   rw [hh] at hh'
   injection hh' with hh'
   injection hh' with _ hh'
   exact ht hh'
theorem OB.passed {w w' : World} {base : Nat} {e : TypeId} {A : Option Addr} {n c : Nat} {l : List UInt8} {row : Option Nat} (h : OB w base e A n c l) (hg : w.grownBy w' row) (hne : own A = none ∨ own A ≠ row) : OB w' base e A n c l := World.ownsRow.kept h hg (by rw [own_slice]; exact hne)
section
variable {α β : Type} {K : RK α} {K' : RK β} {w w' : World} {base : Nat} {e e' : TypeId} {A A' : Option Addr} {k c k' c' : Nat} {L : List α} {L' : List β}
end
set_option linter.unusedVariables false
theorem wpList_appendZs {P : Program} (w : World) {ops : Array Oper} {rest : List Oper} {o : Oper} {a : Act} {Q : Exit → Act → World → Prop} (hgd : o.guard = none) (s x : Operand) (t : TypeId)
  (ho : o.op = .call { callee := .builtin .append, args := #[s, x], argTypes := #[t, t] })
  (base : Nat) (e : TypeId) (zv : Value) (z bytes : Nat) (ht : P.underlying t = some (.slice e)) (hinfo : (P.info? e).map (fun i => (i.zero, i.size, i.bytes)) = some (some zv, z, bytes)) (hzs : zv.cells.size = z) (hz0 : 0 < z)
  (A : Option Addr) (n c : Nat) (l : List (Array Value)) (hs : a.eval s = .slice A n c) (hown : ZO w base e z A n c l)
  (B : Nat) (p : Addr) (m c' : Nat) (R : List (Array Value)) (hx : a.eval x = .slice (some p) m c') (hr : ZS w B z (some p) m c' R) (h1 : ∀ r ∈ R, r.all (·.oneCell') = true)
  (h63 : n + m ≤ maxLen) (hsz : (n + m) * bytes ≤ 140737488355328) (hbase : base ≤ w.heap.size) (hne : A ≠ none)
  (h : ∀ A2 c2 w', ZO w' base e z A2 (n + m) c2 (l ++ R) → Below base w w' → wpList P ops Q rest (a.put o.dst (.slice A2 (n + m) c2)) w') : wpList P ops Q (o :: rest) a w := by
 refine wpList_plain hgd fun K hK => ?_
 obtain ⟨i, hi, hz, hsi, hby⟩ := info_parts hinfo
 have hlen : (R.flatMap Array.toList).length = m * z := by
  have key : ∀ l : List (Array Value), (∀ r ∈ l, r.size = z) → (l.flatMap Array.toList).length = l.length * z := by
   intro l
   induction l with
   | nil => intro _; simp
   | cons r l ih =>
    intro h
    rw [List.flatMap_cons, List.length_append, ih fun x hx => h x (List.mem_cons_of_mem _ hx), List.length_cons, Nat.succ_mul]
    have := h r (List.mem_cons_self ..)
    simp [this, Nat.add_comm]
  rw [key R hr.size, hr.len]
 obtain ⟨v', w', hrun, h2, h3, h4, h5⟩ := run_append_own_at (P := P) w base t o.type e i zv z bytes ht hi hz hsi hby hzs hz0 _ n _ hown.1 p m c' (R.flatMap Array.toList)
  hlen (fun j u hj => by
   have hjl : j < m * z := by rw [← hlen]; exact (List.getElem?_eq_some_iff.1 hj).1
   have hm0 : 0 < m := by
    rcases Nat.eq_zero_or_pos m with h | h
    ·subst h; omega
    ·exact h
   obtain ⟨b, off, e1, hb, hc⟩ := hr.pos hm0
   injection e1 with e1
   subst e1
   have hq : j / z < R.length := by rw [← hr.len]; exact Nat.div_lt_of_lt_mul (by rw [Nat.mul_comm]; exact hjl)
   have hf := flat_at R hr.size (j / z) hq (j % z) (Nat.mod_lt _ hz0)
   rw [Nat.div_add_mod' j z, hj] at hf
   have := hc (j / z) hq (j % z) u hf.symm
   rw [Nat.add_assoc, Nat.div_add_mod' j z] at this
   have e2 : (⟨b, off, none⟩ : Addr).add j = ⟨b, off + j, none⟩ := by unfold Addr.add; split <;> simp_all
   rw [e2]
   exact this)
  (by
   intro u hu
   obtain ⟨r, hr1, hr2⟩ := List.mem_flatMap.1 hu
   exact (Array.all_eq_true_iff_forall_mem.1 (h1 r hr1)) u (by simpa using hr2)) h63 hsz hbase
 have hv : ∃ A2 c2, v' = .slice A2 (n + m) c2 := by
  rcases h2.2 with ⟨h0, _⟩ | ⟨g, cap, cur, h0, _⟩
  ·have := (h4.1 h0).1
   injection this with this
   exact absurd this hne
  ·exact ⟨_, _, h0⟩
 obtain ⟨A2, c2, rfl⟩ := hv
 unfold Oper.wp execOp
 simp only [ho, resolve, invoke, builtin, Sem.run_bind, Sem.run_pure, Result.andThen_ok, List.map_toArray, List.map_cons, List.map_nil, hs, hx, hrun]
 refine hK _ _ (h A2 c2 w' ⟨by rw [List.flatMap_append]; exact h2, by rw [List.length_append, hown.2.1, hr.len], fun r hr1 => ?_⟩ ?_)
 ·rcases List.mem_append.1 hr1 with h | h
  ·exact hown.2.2 r h
  ·exact hr.size r h
 ·refine (Below.refl base w).grown h3 hbase fun k hk => (World.ownsRow.lt hown.1 k hk).1
def RM {α : Type} (K : RK α) (w : World) (B : Nat) (r : Array Value) (a : α) : Prop := ∃ A n c, r = K.cs a (.slice A n c) ∧ (RB w B A n c (K.by_ a) ∨ OB w B 5 A n c (K.by_ a))
def GM {α : Type} (K : RK α) (w : World) (B : Nat) (e : TypeId) (A : Option Addr) (k c : Nat) (L : List α) : Prop :=
 ∃ R, ZO w B e K.z A k c R ∧ R.length = L.length ∧ ∀ j (h : j < R.length) (h' : j < L.length), RM K w B R[j] L[j]
section
variable {α : Type} {K : RK α} {w w' : World} {B : Nat} {e t : TypeId} {A : Option Addr} {k c : Nat} {L : List α} {r : Array Value} {a : α}
theorem RM.keep (h : RM K w B r a) (hg : Grow w w') (hB : B ≤ w.heap.size) : RM K w' B r a := by
 obtain ⟨A, n, c, e1, h1⟩ := h
 refine ⟨A, n, c, e1, ?_⟩
 rcases h1 with h1 | h1
 ·exact .inl (h1.belowAt hg hB)
 ·exact .inr (h1.keep hg)
theorem RM.rb (h : RM K w B r a) (hB : B ≤ w.heap.size) : ∃ A n c, r = K.cs a (.slice A n c) ∧ RB w w.heap.size A n c (K.by_ a) := by
 obtain ⟨A, n, c, e1, h1⟩ := h
 refine ⟨A, n, c, e1, ?_⟩
 rcases h1 with h1 | h1
 ·exact h1.more hB
 ·exact h1.rb
theorem GM.keep (h : GM K w B e A k c L) (hg : Grow w w') (hB : B ≤ w.heap.size) : GM K w' B e A k c L := by
 obtain ⟨R, h1, h2, h3⟩ := h
 exact ⟨R, h1.keep hg, h2, fun j a b => (h3 j a b).keep hg hB⟩
theorem GM.zr (h : GM K w B e A k c L) (hB : B ≤ w.heap.size) : ZR K w w.heap.size A k c L := by
 obtain ⟨R, h1, h2, h3⟩ := h
 exact ⟨R, h1.zs, h2, fun j a b => (h3 j a b).rb hB⟩
theorem RM.past {g : Nat} {cs : Array Value} (h : RM K w B r a) (hb : Blk w g t cs) (hu : 5 ≠ t) (hg : w.grownBy w' (some g)) (hB : B ≤ g) (hs : B ≤ w.heap.size) : RM K w' B r a := by
 obtain ⟨A, n, c, e1, h1⟩ := h
 refine ⟨A, n, c, e1, ?_⟩
 rcases h1 with h1 | h1
 ·exact .inl (h1.belowAt ((Below.refl B w).grown hg hs fun k hk => by injection hk with hk; omega) (Nat.le_refl _))
 ·refine .inr (h1.passed hg ?_)
  rcases h1.2 with ⟨hv, _⟩ | ⟨g', cap, cur, hv, _, hh, _⟩
  ·injection hv with e1 _ _
   subst e1
   exact .inl rfl
  ·injection hv with e1 _ _
   subst e1
   refine .inr fun hA => ?_
   have e3 : g' = g := Option.some.inj hA
   subst e3
   rw [hb] at hh
   injection hh with hh
   injection hh with _ hh
   exact hu hh.symm
theorem GM.past {g : Nat} {cs : Array Value} (h : GM K w B e A k c L) (hb : Blk w g t cs) (hne : e ≠ t) (hu : 5 ≠ t) (hg : w.grownBy w' (some g)) (hB : B ≤ g) (hs : B ≤ w.heap.size) : GM K w' B e A k c L := by
 obtain ⟨R, h1, h2, h3⟩ := h
 refine ⟨R, h1.past hg ?_, h2, fun j a b => (h3 j a b).past hb hu hg hB hs⟩
 rcases h1.1.2 with ⟨hv, _⟩ | ⟨g', cap, cur, hv, _, hh, _⟩
 ·injection hv with e1 _ _
  subst e1
  exact .inl rfl
 ·injection hv with e1 _ _
  subst e1
  refine .inr fun hA => ?_
  have e3 : g' = g := Option.some.inj hA
  subst e3
  rw [hb] at hh
  injection hh with hh
  injection hh with _ hh
  exact hne hh.symm
end
end Go.Proofs.Ytfpihkbpelbcbaa
