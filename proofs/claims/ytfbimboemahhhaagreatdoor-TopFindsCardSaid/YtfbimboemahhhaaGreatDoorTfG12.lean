/-
  Several texts in one: The contract of wire; The contract of wire; The contracts of the document's own Row; The contract of head; The contract of head.
-/
import Derived.Test.YtfbimboemahhhaaGreatDoorTfG7
import Derived.Test.YtfbimboemahhhaaGreatDoorTfG11
import Derived.Test.YtfbimboemahhhaaGreatDoorTfG2
import Derived.Deep.OwnRows
import Derived.Test.YtfbimboemahhhaaGreatDoorRows
import Derived.Test.YtfbimboemahhhaaGreatDoorTfG4
namespace Go.Proofs.YtfbimboemahhhaaGreatDoor
open Go.Lib (hid)
open Go.RowKit
theorem quietL {P : Program} {f : FuncId} {args : Array Value} {w : World} {v : Value}
  (h : Calls P f args w fun e w' => e = .returned v ∧ w = w') : Calls P f args w fun e w' => e = .returned v ∧ w' = w :=
 h.mono fun _ _ hh => ⟨hh.1, hh.2.symm⟩
theorem shl_lt (u r : Nat) (hu : u ≤ 255) (hr : r < 8) : u * 2 ^ (8 * r) < 18446744073709551616 := by
 have h1 : u * 2 ^ (8 * r) ≤ 255 * 2 ^ (8 * r) := Nat.mul_le_mul_right _ hu
 have h2 : 2 ^ (8 * r) ≤ 2 ^ 56 := Nat.pow_le_pow_right (by omega) (by omega)
 omega
theorem shl_fact (u r : Nat) (hu : u ≤ 255) (hr : r < 8) : Op.shift .shl .u64 (u : Int) .u64 (8 * (r : Nat) : Int) = pure (.int .u64 ((u * 2 ^ (8 * r) : Nat) : Int)) := by
 rw [shift_shl_any _ _ _ _ (by omega), show min ((8 * (r : Nat) : Int)).toNat IntKind.u64.bits = 8 * r by simp [IntKind.bits]; omega, IntKind.wrap_u64]
 congr 2
 have h := shl_lt u r hu hr
 have e : (u : Int) * 2 ^ (8 * r) = ((u * 2 ^ (8 * r) : Nat) : Int) := by simp
 rw [e]
 omega
set_option maxHeartbeats 400000 in
theorem get_yes (b off c : Nat) (l : List UInt8) (p n : Nat) (big : Bool) (w : World) (hw : wid n = true) (hp : p + n ≤ l.length) (hl : l.length ≤ c) (hc : c ≤ maxLen)
  (hcell : ∀ j (h : j < l.length), w.cell? ⟨b, off + j, none⟩ = some (.int .u8 (l[j].toNat : Int))) :
  Calls Tryz.prog 54 #[.slice (some ⟨b, off, none⟩) l.length c, .int .u64 p, .int .i64 n, .bool big] w fun e w' =>
   e = .returned (.tuple #[.int .u64 (getB ((l.drop p).take n) big : Nat), .bool true]) ∧ ∃ m, w' = w.drewN m := by
 unfold maxLen at hc
 have hn8 : n ≤ 8 := by have := wid_cases hw; omega
 obtain ⟨q, hq⟩ : ∃ q, q = (l.drop p).take n := ⟨_, rfl⟩
 have hql : q.length = n := by rw [hq]; simp; omega
 have hqc : ∀ j (h : j < q.length), w.cell? ⟨b, off + (p + j), none⟩ = some (.int .u8 (q[j].toNat : Int)) := by
  intro j h
  rw [hcell (p + j) (by omega)]
  simp [hq]
 rw [← hq]
 have H := hid hw
 have HC := hid hqc
 have HL := hid hql
 have HT := hid (show wthn p n l.length = true from decide_eq_true (by omega))
 clear hw hcell hqc hql hq
 go_enter Tryz.func54, Tryz.ntmps54
 go_wp2_with (first
  | (go_at_call 70; refine (isWidth_any _ _).mono ?_; rintro e w' ⟨rfl, rfl⟩; rw [H.out])
  | (go_at_call 106; refine (within_any _ _ _ _ (by omega) (by omega) (by omega)).mono ?_; rintro e w' ⟨rfl, rfl⟩; rw [HT.out]))
 go_loopw [10, 26] (fun v i wr => ∃ k : Nat, k ≤ n ∧ i = .int .i64 k ∧ v = .int .u64 (part q big k : Nat) ∧ ∃ m, wr = w.drewN m) (fun _ i _ => n - (intOf i).toNat)
 case atStart => exact ⟨0, Nat.zero_le _, rfl, by rw [part_zero]; rfl, 0, rfl⟩
 case round =>
  obtain ⟨k, hk, rfl, rfl, hm⟩ := hrel
  have HM := hid hm
  have hcw : ∀ a, wr.cell? a = w.cell? a := by obtain ⟨m, rfl⟩ := hm; intro a; rfl
  clear hm
  by_cases hlt : k < n
  ·have hkq : k < q.length := by rw [HL.out]; exact hlt
   obtain ⟨u, hu⟩ : ∃ u : UInt8, u = q[k] := ⟨_, rfl⟩
   have hcl : wr.cell? ⟨b, off + (p + k), none⟩ = some (.int .u8 u.toNat) := by rw [hcw, hu]; exact HC.out k hkq
   have HS := hid (part_succ q big k hkq)
   rw [← hu, HL.out] at HS
   have hu8 : u.toNat ≤ 255 := by have := u.toNat_lt; omega
   clear hu hkq hcw
   go_wp2_with fail
   have z1 : IntKind.u64.wrap (k : Int) = (k : Int) := by rw [IntKind.wrap_u64]; omega
   have z2 : IntKind.u64.wrap ((p : Int) + (k : Int)) = (p : Int) + (k : Int) := by rw [IntKind.wrap_u64]; omega
   have z6 : IntKind.u64.wrap (u.toNat : Int) = (u.toNat : Int) := by rw [IntKind.wrap_u64]; omega
   obtain ⟨x, hx⟩ : ∃ x, x = u.toNat * 2 ^ (8 * rank k n big) := ⟨_, rfl⟩
   have z7 : Op.shift .shl .u64 (u.toNat : Int) .u64 (8 * (rank k n big : Nat) : Int) = pure (.int .u64 (x : Int)) := by rw [hx]; exact shl_fact u.toNat (rank k n big) (by omega) (by have := rank_lt k n big hlt; omega)
   rw [← hx] at HS
   have h1 : part q big k < 18446744073709551616 := Nat.lt_of_lt_of_le (part_lt q big k (by rw [HL.out]; exact hk)) (by rw [HL.out]; exact (Nat.pow_le_pow_right (by omega) hn8 : 256 ^ n ≤ 256 ^ 8))
   have h2 : x < 18446744073709551616 := by rw [hx]; exact shl_lt u.toNat (rank k n big) (by omega) (by have := rank_lt k n big hlt; omega)
   clear hx
   have z3 : (0 : Int) ≤ (p : Int) + (k : Int) := by omega
   have z4 : ((p : Int) + (k : Int)).toNat = p + k := by omega
   have z5 : (p : Int) + (k : Int) < (l.length : Int) := by omega
   go_quiet ((go_at_call 71; exact Calls.quiet_of_same (quietL (shift_any k n big _ hlt hn8))))
   clear z1 z2 z3 z4 z5 z6 z7
   rw [u64_or_nat _ _ h1 h2, ← HS.out]
   clear h1 h2
   go_wp2
   go_roundw
   case rel => exact ⟨k + 1, by omega, by go_num, rfl, by obtain ⟨m, hm⟩ := HM.out; exact ⟨m + nq, by rw [hm, World.drewN_drewN]⟩⟩
   case measure => simp [intOf]; omega
  ·go_wp2
   go_ret2
   have e : k = q.length := by rw [HL.out]; omega
   exact ⟨by rw [e, part_all]; rfl, HM.out⟩
def gotB (l : List UInt8) (p n : Int) : Bool := wid n && wthn p n l.length
def gotV (l : List UInt8) (p n : Int) (big : Bool) : Nat := if gotB l p n then getB ((l.drop p.toNat).take n.toNat) big else 0
theorem get_no (A : Option Addr) (len c : Nat) (p n : Int) (big : Bool) (w : World) (hl : len ≤ c) (hc : c ≤ maxLen) (hp : 0 ≤ p) (h : wid n = false ∨ (wid n = true ∧ wthn p n len = false)) :
  Calls Tryz.prog 54 #[.slice A len c, .int .u64 p, .int .i64 n, .bool big] w fun e w' =>
   e = .returned (.tuple #[.int .u64 0, .bool false]) ∧ w = w' := by
 unfold maxLen at hc
 rcases h with h | ⟨h, ht⟩
 ·have H := hid h
  clear h
  go_enter Tryz.func54, Tryz.ntmps54
  go_wp2_with (go_at_call 70; refine (isWidth_any _ _).mono ?_; rintro e w' ⟨rfl, rfl⟩; rw [H.out])
  go_ret2
  exact ⟨rfl, rfl⟩
 ·obtain ⟨N, rfl⟩ : ∃ N : Nat, n = N := ⟨n.toNat, by have := wid_cases h; omega⟩
  have hn8 : N ≤ 8 := by have := wid_cases h; omega
  have H := hid h
  have HT := hid ht
  clear h ht
  go_enter Tryz.func54, Tryz.ntmps54
  go_wp2_with (first
   | (go_at_call 70; refine (isWidth_any _ _).mono ?_; rintro e w' ⟨rfl, rfl⟩; rw [H.out])
   | (go_at_call 106; refine (within_any _ _ _ _ (by omega) (by omega) (by omega)).mono ?_; rintro e w' ⟨rfl, rfl⟩; rw [HT.out]))
  go_ret2
  exact ⟨rfl, rfl⟩
theorem get_any (A : Option Addr) (len c : Nat) (l : List UInt8) (B : Nat) (p n : Int) (big : Bool) (w : World) (h : RB w B A len c l) (hp : 0 ≤ p) :
  Calls Tryz.prog 54 #[.slice A len c, .int .u64 p, .int .i64 n, .bool big] w fun e w' =>
   e = .returned (.tuple #[.int .u64 (gotV l p n big : Nat), .bool (gotB l p n)]) ∧ ∃ m, w' = w.drewN m := by
 have hl := h.len
 cases hg : gotB l p n
 ·have e : gotV l p n big = 0 := by simp [gotV, hg]
  rw [e]
  refine (get_no A len c p n big w h.cap h.max hp ?_).mono fun e w' ⟨h1, h2⟩ => ⟨h1, 0, h2.symm⟩
  rw [hl]
  cases hw : wid n
  ·exact .inl rfl
  ·exact .inr ⟨rfl, by simpa [gotB, hw] using hg⟩
 ·have hw : wid n = true ∧ wthn p n l.length = true := by simpa [gotB] using hg
  obtain ⟨N, rfl⟩ : ∃ N : Nat, n = N := ⟨n.toNat, by have := wid_cases hw.1; omega⟩
  obtain ⟨K, rfl⟩ : ∃ N : Nat, p = N := ⟨p.toNat, by omega⟩
  have hN := wid_cases hw.1
  have hpn := of_decide_eq_true hw.2
  obtain ⟨b, off, rfl, _, hcell⟩ := h.pos (by omega)
  have e : gotV l K N big = getB ((l.drop K).take N) big := by simp [gotV, hg]
  rw [e, hl]
  exact get_yes b off c l K N big w hw.1 (by omega) (by have := h.cap; omega) h.max hcell
end Go.Proofs.YtfbimboemahhhaaGreatDoor
namespace Go.Proofs.YtfbimboemahhhaaGreatDoor
open Go.Lib (hid)
open Go.RowKit Go.Deep
def Made (l : List UInt8) (w : World) (e : Ending) (w' : World) : Prop :=
 ∃ A c, e = .returned (.slice A l.length c) ∧ OB w' w.heap.size 5 A l.length c l ∧ Below w.heap.size w w'
def putL (v n : Int) (big : Bool) : List UInt8 := if wid n then putB v.toNat n.toNat big else []
theorem put_no (v n : Int) (big : Bool) (w : World) (h : wid n = false) :
  Calls Tryz.prog 37 #[.int .u64 v, .int .i64 n, .bool big] w fun e w' => e = .returned (.slice none 0 0) ∧ w = w' := by
 have H := hid h
 clear h
 go_enter Tryz.func37, Tryz.ntmps37
 go_wp2_with (go_at_call 70; refine (isWidth_any _ _).mono ?_; rintro e w' ⟨rfl, rfl⟩; rw [H.out])
 go_ret
 exact ⟨rfl, rfl⟩
def wrote (l : List UInt8) (k j : Nat) : Value := .int .u8 (if j < k then (l.getD j 0).toNat else 0 : Nat)
theorem shr_fact (v r : Nat) (hr : r < 8) : Op.shift .shr .u64 (v : Int) .u64 (8 * (r : Nat) : Int) = pure (.int .u64 ((v / 256 ^ r : Nat) : Int)) := by
 rw [shift_shr_any _ _ _ _ (by omega), show min ((8 * (r : Nat) : Int)).toNat IntKind.u64.bits = 8 * r by simp [IntKind.bits]; omega]
 congr 2
 rw [pow256]
 simp
set_option maxHeartbeats 400000 in
theorem put_yes (v n : Nat) (big : Bool) (w : World) (h : wid n = true) :
  Calls Tryz.prog 37 #[.int .u64 v, .int .i64 n, .bool big] w fun e w' => e = .returned (.slice (some ⟨w.heap.size, 0, none⟩) n n) ∧
   w'.rowIs w.heap.size 5 n (wrote (putB v n big) n) ∧ Below w.heap.size w w' := by
 have hn8 : n ≤ 8 := by have := wid_cases h; omega
 have H := hid h
 have hmk : ∀ W : World, (Instr.makeSlice 29 (.int .i64 (n : Int)) (.int .i64 (n : Int))).run Tryz.prog W = .ok (.slice (some ⟨W.heap.size, 0, none⟩) n n) (W.alloc (.cells (madeCells #[.int .u8 0] n) 5)) :=
  fun W => run_make_row' 29 5 (.int .u8 0) 1 Tryz.underlying29 (by kernel_rfl) rfl _ _ n (by omega) (by omega) W
 have h0 : (w.alloc (.cells (madeCells #[.int .u8 0] n) 5)).rowIs w.heap.size 5 n (wrote (putB v n big) 0) := (World.rowIs_made w (.int .u8 0) n 5).congr fun i _ => by simp [wrote]
 have H0 := hid h0
 clear h h0
 go_enter Tryz.func37, Tryz.ntmps37
 go_wp2_with (go_at_call 70; refine (isWidth_any _ _).mono ?_; rintro e w' ⟨rfl, rfl⟩; rw [H.out])
 obtain ⟨g, hg⟩ : ∃ g, g = w.heap.size := ⟨_, rfl⟩
 rw [← hg] at H0
 have HG := hid hg
 rw [← hg]
 clear hmk
 go_loopw [15] (fun i wr => ∃ k : Nat, k ≤ n ∧ i = .int .i64 k ∧ wr.rowIs g 5 n (wrote (putB v n big) k) ∧ Below g w wr) (fun i _ => n - (intOf i).toNat)
 case atStart => exact ⟨0, Nat.zero_le _, rfl, H0.out, (Below.refl _ _).alloc (by omega) _⟩
 case round =>
  obtain ⟨k, hk, rfl, hrow, hbel⟩ := hrel
  clear hg
  by_cases hlt : k < n
  ·have hcl := hrow.cell hlt
   have hfz := hrow.frozen k
   have HR := hid hrow
   have HB := hid hbel
   have z7 := shr_fact v (rank k n big) (by have := rank_lt k n big hlt; omega)
   obtain ⟨y, hy⟩ : ∃ y, y = v / 256 ^ rank k n big := ⟨_, rfl⟩
   have HY := hid hy
   rw [← hy] at z7
   clear hrow hbel hy
   go_wp2_with (go_at_call 71; refine (shift_any k n big _ hlt hn8).mono ?_; rintro e w' ⟨rfl, rfl⟩)
   go_roundw
   case rel =>
    refine ⟨k + 1, by omega, by go_num, (HR.out.set k _).congr fun j hj => ?_, HB.out.setCell (Nat.le_refl _) _⟩
    have hyv : (putB v n big).getD j 0 = UInt8.ofNat (v / 256 ^ rank j n big) := by rw [List.getD_eq_getElem?_getD, putB_at v n j big hj]; rfl
    by_cases e : j = k
    ·subst e
     simp only [if_true, wrote, Nat.lt_succ_self, hyv, HY.out, toNat_ofNat8]
     simp
    ·rw [if_neg e]
     by_cases e2 : j < k
     ·simp only [wrote, if_pos e2, if_pos (show j < k + 1 by omega)]
     ·simp only [wrote, if_neg e2, if_neg (show ¬ j < k + 1 by omega)]
   case measure => simp [intOf]; omega
  ·have HR : Hid (wr.rowIs g 5 n (wrote (putB v n big) n)) := by
    have e : k = n := by omega
    rw [e] at hrow
    exact hrow
   have HB := hid hbel
   clear hrow hbel
   go_wp2
   go_ret
   rw [← HG.out]
   exact ⟨rfl, HR.out, HB.out⟩
theorem put_any (v n : Int) (big : Bool) (w : World) (h0 : 0 ≤ v) :
  Calls Tryz.prog 37 #[.int .u64 v, .int .i64 n, .bool big] w (Made (putL v n big) w) := by
 cases h : wid n
 ·have e : putL v n big = [] := by simp [putL, h]
  rw [e]
  exact (put_no v n big w h).mono fun e w' ⟨h1, h2⟩ => ⟨none, 0, h1, OB.nil, h2 ▸ Below.refl _ _⟩
 ·obtain ⟨N, rfl⟩ : ∃ N : Nat, n = N := ⟨n.toNat, by have := wid_cases h; omega⟩
  obtain ⟨V, rfl⟩ : ∃ N : Nat, v = N := ⟨v.toNat, by omega⟩
  have hN8 : N ≤ 8 := by have := wid_cases h; omega
  have e : putL V N big = putB V N big := by simp [putL, h]
  rw [e]
  refine (put_yes V N big w h).mono fun e w' ⟨h1, h2, h3⟩ => ?_
  have hlen := length_putB V N big
  refine ⟨some ⟨w.heap.size, 0, none⟩, N, by rw [hlen]; exact h1, ⟨by simp, .inr ?_⟩, h3⟩
  obtain ⟨c, hb, hn, hc⟩ := h2
  rw [hlen]
  refine ⟨w.heap.size, N, c, rfl, Nat.le_refl _, hb, Nat.le_refl _, by unfold maxLen; omega, by omega, ?_⟩
  apply List.ext_getElem?
  intro i
  by_cases hi : i < N
  ·rw [List.getElem?_take_of_lt (by omega), Array.getElem?_toList, hc i hi]
   have := putB_at V N i big hi
   simp [wrote, hi, this, byt]
  ·rw [List.getElem?_eq_none (by simp; omega), List.getElem?_eq_none (by simp; omega)]
theorem put_wide (v : Int) (n : Nat) (big : Bool) (w : World) (h : wid n = true) (h0 : 0 ≤ v) :
  Calls Tryz.prog 37 #[.int .u64 v, .int .i64 n, .bool big] w fun e w' => ∃ A c, e = .returned (.slice A n c) ∧ OB w' w.heap.size 5 A n c (putB v.toNat n big) ∧ Below w.heap.size w w' := by
 refine (put_any v n big w h0).mono fun e w' ⟨A, c, h1, h2, h3⟩ => ?_
 have e1 : putL v n big = putB v.toNat n big := by simp [putL, h]
 rw [e1, length_putB] at h1 h2
 exact ⟨A, c, h1, h2, h3⟩
end Go.Proofs.YtfbimboemahhhaaGreatDoor
namespace Go.Proofs.YtfbimboemahhhaaGreatDoor
open Go.Lib (hid)
open Go.RowKit
structure Rowed (q : List (Nat × Nat)) : Prop where
 few : q.length ≤ 100
 wide : ∀ k (h : k < q.length), wid q[k].2 = true
 lt : ∀ k (h : k < q.length), q[k].1 < 18446744073709551616
theorem Rowed.wide8 {q : List (Nat × Nat)} (h : Rowed q) (k : Nat) (hk : k < q.length) : q[k].2 ≤ 8 := by
 have := wid_cases (h.wide k hk); omega
theorem rowB_le {q : List (Nat × Nat)} (h : Rowed q) (big : Bool) : ∀ k, k ≤ q.length → (rowB big (q.take k)).length ≤ 8 * k
 | 0, _ => by simp [rowB]
 | k + 1, hk => by
  rw [rowB_succ big q k (by omega), List.length_append, length_putB]
  have := rowB_le h big k (by omega)
  have := h.wide8 k (by omega)
  omega
theorem fits_row (v n : Nat) (h : wid n = true) : fits v n = decide (v < 256 ^ n) := by
 simp only [fits, h, Bool.true_and, Int.toNat_natCast]
 rw [Bool.eq_iff_iff, decide_eq_true_iff, decide_eq_true_iff]
 have e : ((256 : Int) ^ n) = ((256 ^ n : Nat) : Int) := by simp
 rw [e]; omega
def Hd.Q (h : Hd) : List (Nat × Nat) := h.N.zip (hRow h.wide)
def Hd.L (h : Hd) : List UInt8 := idL h.wide h.big h.o h.a ++ rowB h.big h.Q
theorem Hd.lenQ (h : Hd) : h.Q.length = 13 := by simp [Hd.Q, Hd.N, hRow]
theorem Hd.rowed (h : Hd) (ok : h.Ok) : Rowed h.Q := by
 obtain ⟨k1, k2, k3, k4, k5, k6, k7, k8, k9⟩ := ok
 have s0 : hSize h.wide ≤ 64 := byWide_le _ _ _ _ (by omega) (by omega)
 have s1 := ifSome_le ((h.pn : Int) != 0) (byWide h.wide 32 56)
 have s2 := ifSome_le ((h.sh : Int) != 0) (byWide h.wide 40 64)
 have s3 : byWide h.wide 32 56 ≤ 64 := byWide_le _ _ _ _ (by omega) (by omega)
 have s4 : byWide h.wide 40 64 ≤ 64 := byWide_le _ _ _ _ (by omega) (by omega)
 have hw : wid (byWide h.wide 4 8 : Nat) = true := by cases h.wide <;> rfl
 refine ⟨by rw [h.lenQ]; omega, fun k hk => ?_, fun k hk => ?_⟩
 ·rw [h.lenQ] at hk
  match k, hk with
  | 0, _ => rfl
  | 1, _ => rfl
  | 2, _ => rfl
  | 3, _ => exact hw
  | 4, _ => exact hw
  | 5, _ => exact hw
  | 6, _ => rfl
  | 7, _ => rfl
  | 8, _ => rfl
  | 9, _ => rfl
  | 10, _ => rfl
  | 11, _ => rfl
  | 12, _ => rfl
 ·rw [h.lenQ] at hk
  match k, hk with
  | 0, _ => show h.ty < _; omega
  | 1, _ => show h.ma < _; omega
  | 2, _ => show 1 < _; omega
  | 3, _ => show h.en < _; omega
  | 4, _ => show h.ph < _; omega
  | 5, _ => show h.sh < _; omega
  | 6, _ => show h.fl < _; omega
  | 7, _ => show hSize h.wide < _; omega
  | 8, _ => show ifSome ((h.pn : Int) != 0) (byWide h.wide 32 56) < _; omega
  | 9, _ => show h.pn < _; omega
  | 10, _ => show ifSome ((h.sh : Int) != 0) (byWide h.wide 40 64) < _; omega
  | 11, _ => show h.sn < _; omega
  | 12, _ => show h.st < _; omega
theorem Hd.atN (h : Hd) (k : Nat) (hk : k < h.Q.length) : (u64s h.N)[k]? = some (.int .u64 (h.Q[k].1 : Int)) := by
 have hk' := hk
 rw [h.lenQ] at hk
 simp [u64s, Hd.Q, show k < h.N.length from hk]
theorem Hd.atW (h : Hd) (k : Nat) (hk : k < h.Q.length) : (i64s (hRow h.wide))[k]? = some (.int .i64 (h.Q[k].2 : Int)) := by
 have hk' := hk
 rw [h.lenQ] at hk
 simp [i64s, Hd.Q, show k < (hRow h.wide).length from hk]
def HPut (h : Hd) (w : World) (e : Ending) (w' : World) : Prop :=
 (rowF h.Q = true ∧ ∃ A c, e = .returned (.tuple #[.slice A h.L.length c, .nilIface]) ∧ OB w' w.heap.size 5 A h.L.length c h.L ∧ Grow w w') ∨
 (rowF h.Q = false ∧ e = .returned (.tuple #[.slice none 0 0, .iface 86 (.int .i64 1)]) ∧ Grow w w')
set_option maxHeartbeats 400000 in
theorem hPut_any (h : Hd) (ok : h.Ok) (w : World) : Calls Tryz.prog 74 #[h.V] w (HPut h w) := by
 have HR := hid (h.rowed ok)
 have HN := hid (fun w => numbers_any h ok w)
 have HAN := hid h.atN
 have HAW := hid h.atW
 have HSN : Hid ((u64s h.N).size = 13) := hid (by simp [u64s, Hd.N])
 have HON := hid (one_u64s h.N)
 have HI := hid (fun w => idPut_any h.wide h.big h.o h.a w)
 have HWi := hid (fun w => widths_any h.wide h.big w)
 have HLQ := hid h.lenQ
 have HL : Hid (h.L = idL h.wide h.big h.o h.a ++ rowB h.big h.Q) := hid rfl
 unfold HPut
 generalize h.L = L at HL ⊢
 generalize h.Q = q at HR HAN HAW HLQ HL ⊢
 generalize u64s h.N = RN at HN HAN HSN HON
 generalize i64s (hRow h.wide) = RW at HAW HWi
 obtain ⟨wide, big, o, a, ty, ma, en, ph, sh, fl, pn, sn, st⟩ := h
 unfold Hd.V Hd.C idV at *
 simp only [] at *
 go_enter Tryz.func74, Tryz.ntmps74
 go_wp2_with fail
 generalize hW : World.alloc _ _ = W0
 obtain ⟨b1, bf, hg0⟩ := blk2 hW
 have HB1 := hid b1
 have HBF := hid bf
 have HG0 := hid hg0
 clear hW b1 bf hg0
 refine (HI.out W0).mono ?_
 rintro e w1 ⟨rfl, ob, hw1⟩
 have hg1 : Grow W0 w1 := by rw [hw1]; exact (Grow.of_alloc _ _).trans (Grow.of_alloc _ _)
 have HBB : Hid (Blk w1 (W0.heap.size + 1) 5 ((idL wide big o a).map byt).toArray) := by
  have := Blk.new (W0.alloc ob) 5 (idC wide big o a)
  rw [show (W0.alloc ob).heap.size = W0.heap.size + 1 by simp] at this
  rw [hw1]; exact this
 have HG1 : Hid (Grow w w1) := HG0.out.trans hg1
 have hb1 := (HB1.out.grow hg1).c13
 have HBF1 := hid (HBF.out.grow hg1)
 have HG5 : Hid (w.heap.size + 1 < W0.heap.size + 1) := Nat.succ_lt_succ (Nat.lt_of_lt_of_le (Nat.lt_succ_self _) (Nat.le_of_lt HBF.out.lt))
 generalize W0.heap.size + 1 = g5 at HBB HG5 ⊢
 clear hw1 hg1 HB1 HBF HG0
 obtain ⟨x0, x1, x2, x3, x4, x5, x6, x7, x8, x9, x10, x11, x12⟩ := hb1
 go_wp2_with fail
 clear x0 x1 x2 x3 x4 x5 x6 x7 x8 x9 x10 x11 x12
 refine (HN.out w1).mono ?_
 rintro e w2 ⟨rfl, hg2⟩
 have HG2 : Hid (Grow w w2) := HG1.out.trans hg2
 have HBB2 := hid (HBB.out.grow hg2)
 have HBF2 := hid (HBF1.out.grow hg2)
 clear hg2 HG1 HBB HBF1
 obtain ⟨y0, y1⟩ := (HBF2.out.alloc (.cells RN 176)).c2
 go_wp2_with (refine wpList_store_row rfl 176 (.tmp 6) (.tmp 16) rfl w2.heap.size RN rfl rfl _ _ (Blk.new _ _ _) (by rw [HSN.out]; kernel_rfl) (by rw [HSN.out]; rfl) HON.out ?_; rw [World.setRow_alloc_new])
 clear y0 y1
 refine (HWi.out _).mono ?_
 rintro e w3 ⟨rfl, hg3⟩
 have HBN := hid ((Blk.new w2 176 RN).grow hg3)
 have HBB3 := hid ((HBB2.out.alloc _).grow hg3)
 have HBF3 := hid ((HBF2.out.alloc _).grow hg3)
 have HG3 : Hid (Grow w w3) := (HG2.out.trans (Grow.of_alloc _ _)).trans hg3
 have HG6 : Hid (g5 < w2.heap.size) := HBB2.out.lt
 generalize w2.heap.size = g6 at HBN HG6 ⊢
 clear hg3 HG2 HBB2 HBF2
 go_wp2_with fail
 have HI0 : Hid (OB w3 w.heap.size 5 (some ⟨g5, 0, none⟩) 16 16 (idL wide big o a)) := OB.of_blk HBB3.out (by have := HG5.out; omega) (by simp [idL, maxLen])
 have HD : Hid (g5 ≠ w.heap.size + 1) := by have := HG5.out; exact hid (by omega)
 have HD6 : Hid (g5 ≠ g6) := by have := HG6.out; exact hid (by omega)
 have HLL : Hid ((idL wide big o a).length = 16) := hid rfl
 generalize idL wide big o a = I at HL HI0 HLL
 clear HBB3 HI HN HWi
 go_loopw [5, 19] (fun x i wr => ∃ (k : Nat) (A : Option Addr) (c : Nat), k ≤ 13 ∧ i = .int .i64 k ∧ x = .slice A (16 + (rowB big (q.take k)).length) c ∧ OB wr w.heap.size 5 A (16 + (rowB big (q.take k)).length) c (I ++ rowB big (q.take k)) ∧
  own A ≠ some (w.heap.size + 1) ∧ own A ≠ some g6 ∧ Blk wr (w.heap.size + 1) 23 #[.bool wide, .bool big] ∧ Blk wr g6 176 RN ∧ rowF (q.take k) = true ∧ Grow w wr) (fun _ i _ => 13 - (intOf i).toNat)
 case atStart => exact ⟨0, some ⟨g5, 0, none⟩, 16, by omega, rfl, rfl, by rw [List.take_zero, rowB, List.append_nil]; exact HI0.out, fun h => HD.out (by injection h), fun h => HD6.out (by injection h), HBF3.out, HBN.out, rfl, HG3.out⟩
 case round =>
  obtain ⟨k, A, c, hk, rfl, rfl, ho, hd1, hd2, hbf, hbn, hrf, hg⟩ := hrel
  have HO := hid ho
  have HD1 := hid hd1
  have HD2 := hid hd2
  have HBF := hid hbf
  have HBN2 := hid hbn
  have HRF := hid hrf
  have HG := hid hg
  clear ho hd1 hd2 hbf hbn hrf hg HI0 HBN HBF3 HG3
  by_cases hlt : k < 13
  ·have hkq : k < q.length := by rw [HLQ.out]; exact hlt
   have HB := hid (rowB_succ big q k hkq)
   have HF := hid (rowF_succ q k hkq)
   have HW := hid (HR.out.wide k hkq)
   have HZ := hid (fun h => rowF_false hkq h)
   have HLE := hid (rowB_le HR.out big k (by omega))
   have hv := HR.out.lt k hkq
   have hw8 := HR.out.wide8 k hkq
   have HK1 := hid (HAN.out k hkq)
   have HK2 := hid (HAW.out k hkq)
   rw [HRF.out, Bool.true_and] at HF
   generalize q[k].1 = v at HB HF HZ hv HK1
   generalize q[k].2 = m at HB HF HZ HW hw8 HK2
   have y1 : wr.cell? ⟨g6, k, none⟩ = some (.int .u64 (v : Int)) := (HBN2.out.at k).trans HK1.out
   have z1 : (0 : Int) ≤ (k : Int) := by omega
   have z2 : (k : Int) < 13 := by omega
   clear hkq
   go_wp2_with (refine wpList_index rfl 177 3 (.tmp 18) (.tmp 19) rfl 13 _ Tryz.underlying177 Tryz.underlying3 rfl (by kernel_rfl) RW k (.int .i64 (m : Int)) rfl rfl hlt HK2.out ?_)
   refine (fits_any v m _ (by omega) (by omega)).mono ?_
   rintro e w5 ⟨rfl, rfl⟩
   rw [fits_row v m HW.out]
   cases hfit : decide (v < 256 ^ m)
   ·have HZ2 := hid (HZ.out hfit)
    clear hfit
    go_wp2
    go_ret2
    exact .inr ⟨HZ2.out, rfl, HG.out⟩
   ·rw [hfit] at HF
    clear hfit HZ
    go_wp2_with fail
    clear y1
    refine wp_region_leap (leap_kept (fun j => j = w.heap.size + 1 ∨ j = g6)) [(0, true), (1, true), (2, true), (3, true), (4, true), (5, true), (6, true), (7, false), (8, false), (9, true)] (by kernel_rfl) (by kernel_rfl) (by kernel_rfl) ?_
    have HX : Hid (∀ W, Kept (fun j => j = w.heap.size + 1 ∨ j = g6) wr.drew W → (_ ∧ _) ∧ W.cell? ⟨g6, k, none⟩ = some (.int .u64 (v : Int))) := fun W hW =>
     ⟨(HBF.out.drew.kept hW (.inl rfl)).c2, ((HBN2.out.drew.kept hW (.inr rfl)).at k).trans HK1.out⟩
    have HO1 : Hid (OB wr.drew _ _ _ _ _ _) := HO.out
    have HBF1 := hid HBF.out.drew
    have HBN1 := hid HBN2.out.drew
    have HG1 : Hid (Grow w wr.drew) := HG.out.trans (Grow.of_drew _)
    generalize wr.drew = w6 at HX HO1 HBF1 HBN1 HG1 ⊢
    clear HO HBF HBN2 HG
    repeat (refine chain_take rfl (by rfl) ?_ (fun W hG => ?_) ?_; rotate_left; (obtain ⟨⟨q1, q2⟩, q3⟩ := HX.out W hG; go_simp; rfl); simp only [Act.put, List.setIfInBounds_toArray, List.set_cons_zero, List.set_cons_succ])
    clear HX
    refine chain_only rfl (by rfl) (fun K hK => ?_)
    go_simp
    refine (put_wide v m big _ HW.out (by omega)).mono ?_
    rintro e w7 ⟨A3, c3, rfl, ho3, hb3⟩
    refine hK _ _ (Kept.of_grow hb3) ?_
    clear hK K
    have HO3 := hid ho3
    have HO4 := hid (HO1.out.keep hb3)
    have HBF7 := hid (HBF1.out.grow hb3)
    have HBN7 := hid (HBN1.out.grow hb3)
    have HG7 : Hid (Grow w w7) := HG1.out.trans hb3
    clear ho3 hb3 HO1 HBF1 HBN1 HG1
    rw [Int.toNat_natCast] at HO3
    refine chain_only rfl (by rfl) (fun K hK => ?_)
    refine wp_appendS w7 (.tmp 30) (.tmp 37) 29 rfl w.heap.size 5 Tryz.underlying29 (by kernel_rfl) A _ c _ rfl HO4.out w7.heap.size A3 m c3 _ rfl HO3.out.rb (by have := HLE.out; omega) HG7.out.size ?_
    intro A5 c5 w8 ho5 hb5 hk5 hn5
    have HBF8 : Hid (Blk w8 (w.heap.size + 1) 23 #[.bool wide, .bool big]) := (hk5 _ HBF7.out.lt HD1.out).trans HBF7.out
    have HBN8 : Hid (Blk w8 g6 176 RN) := (hk5 _ HBN7.out.lt HD2.out).trans HBN7.out
    refine hK _ _ ⟨hb5.size, fun j hj hj2 => by
     rcases hj2 with rfl | rfl
     ·exact hk5 _ hj HD1.out
     ·exact hk5 _ hj HD2.out⟩ ?_
    clear hK K
    have HD1' : Hid (own A5 ≠ some (w.heap.size + 1)) := by
     rcases hn5 with e | e
     ·rw [e]; exact HD1
     ·rw [e]; have := HBF7.out.lt; exact fun h => by injection h; omega
    have HD2' : Hid (own A5 ≠ some g6) := by
     rcases hn5 with e | e
     ·rw [e]; exact HD2
     ·rw [e]; have := HBN7.out.lt; exact fun h => by injection h; omega
    have HG8 : Hid (Grow w w8) := HG7.out.trans' hb5
    rw [List.append_assoc, ← HB.out] at ho5
    have hm : 16 + (rowB big (q.take k)).length + m = 16 + (rowB big (q.take (k + 1))).length := by rw [HB.out, List.length_append, length_putB]; omega
    rw [hm] at ho5 ⊢
    have HO5 := hid ho5
    clear ho5 hb5 hk5 hn5 hm HO3 HO4 HG7 HBF7 HBN7
    repeat (refine chain_take rfl (by rfl) ?_ (fun W hG => ?_) ?_; rotate_left; (go_simp; rfl); simp only [Act.put, List.setIfInBounds_toArray, List.set_cons_zero, List.set_cons_succ])
    refine chain_done ?_
    go_wp2
    go_roundw
    case rel => exact ⟨k + 1, A5, c5, by omega, by go_num, rfl, HO5.out, HD1'.out, HD2'.out, HBF8.out, HBN8.out, HF.out, HG8.out⟩
    case measure => simp [intOf]; omega
  ·have HK : Hid (q.take k = q) := by
    have e : k = q.length := by rw [HLQ.out]; omega
    rw [e]
    exact List.take_length
   rw [HK.out] at HO HRF ⊢
   have HE : Hid (16 + (rowB big q).length = L.length) := by
    have := HLL.out
    rw [HL.out, List.length_append, this]
    exact hid rfl
   rw [HE.out, ← HL.out] at HO
   rw [HE.out]
   go_wp2
   go_ret2
   exact .inl ⟨HRF.out, A, c, rfl, HO.out, HG.out⟩
set_option maxRecDepth 100000
def hPl (wide : Bool) : List Nat := (List.range 13).map fun k => 16 + sumN ((hRow wide).take k)
theorem hPl_at (wide : Bool) (k : Nat) (h : k < 13) : (hPl wide)[k]? = some (16 + sumN ((hRow wide).take k)) := by simp [hPl, h]
theorem sum_hRow (wide : Bool) : 16 + sumN (hRow wide) = hSize wide := by cases wide <;> rfl
theorem wid_hRow (wide : Bool) (k : Nat) (h : k < (hRow wide).length) : wid ((hRow wide)[k] : Nat) = true := by
 have hw : wid (byWide wide 4 8 : Nat) = true := by cases wide <;> rfl
 match k, h with
 | 0, _ => rfl
 | 1, _ => rfl
 | 2, _ => rfl
 | 3, _ => exact hw
 | 4, _ => exact hw
 | 5, _ => exact hw
 | 6, _ => rfl
 | 7, _ => rfl
 | 8, _ => rfl
 | 9, _ => rfl
 | 10, _ => rfl
 | 11, _ => rfl
 | 12, _ => rfl
set_option maxHeartbeats 400000 in
theorem hRead_any (A : Option Addr) (len c : Nat) (l : List UInt8) (wide big : Bool) (w : World) (h : RB w w.heap.size A len c l) (hlen : hSize wide ≤ l.length) :
  Calls Tryz.prog 85 #[.slice A len c, .agg #[.bool wide, .bool big]] w fun e w' =>
   e = .returned (.tuple #[.agg (u64s (nums l big 16 (hRow wide))), .agg (i64s (hPl wide))]) ∧ Grow w w' := by
 have HWi := hid (fun w => widths_any wide big w)
 have HR := hid h
 have HLEN := hid hlen
 have HWW := hid (wid_hRow wide)
 have HNA := hid (nums_at l big (hRow wide) 16)
 have HPA := hid (hPl_at wide)
 have HLN : Hid ((nums l big 16 (hRow wide)).length = 13) := hid (length_nums _ _ _ _)
 have HLP : Hid ((hPl wide).length = 13) := hid (by simp [hPl])
 have HSL := hid (sum_hRow wide)
 have HAW : Hid (∀ k (h : k < (hRow wide).length), (i64s (hRow wide))[k]? = some (.int .i64 ((hRow wide)[k] : Int))) := hid (fun k h => by simp [i64s, h])
 generalize i64s (hRow wide) = RW at HWi HAW
 have HRL : Hid ((hRow wide).length = 13) := hid rfl
 have HMX := hid h.max
 have HLen := hid h.len
 have hcp := h.cap
 have hmx := h.max
 unfold maxLen at hmx
 generalize nums l big 16 (hRow wide) = vs at HNA HLN ⊢
 generalize hPl wide = ps at HPA HLP ⊢
 generalize hRow wide = ns at HWW HNA HPA HSL HAW HRL
 clear h hlen
 go_enter Tryz.func85, Tryz.ntmps85
 go_wp2_with fail
 generalize hW : World.alloc _ _ = W0
 obtain ⟨bf, bv, bp, hg0⟩ := blk3 hW
 clear hW
 refine (HWi.out _).mono ?_
 rintro e w1 ⟨rfl, hg1⟩
 have HBF := hid (bf.grow hg1)
 have HV := hid ((bv.grow hg1).row (f := laidTo .u64 vs 0) (fun i hi => by
  rw [show (#[.int .u64 0, .int .u64 0, .int .u64 0, .int .u64 0, .int .u64 0, .int .u64 0, .int .u64 0, .int .u64 0, .int .u64 0, .int .u64 0, .int .u64 0, .int .u64 0, .int .u64 0] : Array Value) = Array.replicate 13 (.int .u64 0) from rfl]
  have hi' : i < 13 := hi
  simp [laidTo, hi']))
 have HP := hid ((bp.grow hg1).row (f := laidTo .i64 ps 0) (fun i hi => by
  rw [show (#[.int .i64 0, .int .i64 0, .int .i64 0, .int .i64 0, .int .i64 0, .int .i64 0, .int .i64 0, .int .i64 0, .int .i64 0, .int .i64 0, .int .i64 0, .int .i64 0, .int .i64 0] : Array Value) = Array.replicate 13 (.int .i64 0) from rfl]
  have hi' : i < 13 := hi
  simp [laidTo, hi']))
 have HG1 : Hid (Grow w w1) := hg0.trans hg1
 have HS0 : Hid (w.heap.size ≤ w.heap.size) := Nat.le_refl _
 clear bf bv bp hg0 hg1
 generalize hS : w.heap.size = S at HBF HV HP HS0 ⊢
 have HS := hid hS
 clear hS
 go_wp2_with fail
 go_loopw [6, 11] (fun x i wr => ∃ (k at' : Nat), k ≤ 13 ∧ i = .int .i64 k ∧ x = .int .i64 at' ∧ at' = 16 + sumN (ns.take k) ∧ wr.rowIs (S + 1) 176 13 (laidTo .u64 vs k) ∧ wr.rowIs (S + 1 + 1) 177 13 (laidTo .i64 ps k) ∧
  Blk wr S 23 #[.bool wide, .bool big] ∧ Grow w wr) (fun _ i _ => 13 - (intOf i).toNat)
 case atStart => exact ⟨0, 16, by omega, rfl, rfl, rfl, HV.out, HP.out, HBF.out, HG1.out⟩
 case round =>
  obtain ⟨k, at', hk, rfl, rfl, ha, hv, hp, hbf, hg⟩ := hrel
  by_cases hlt : k < 13
  ·have hkn : k < ns.length := by rw [HRL.out]; exact hlt
   have HA := hid ha
   have HV1 := hid hv
   have HP1 := hid hp
   have HBF1 := hid hbf
   have HG := hid hg
   have HNk := hid (HNA.out k hkn)
   have HPk := hid (HPA.out k hlt)
   have HWk := hid (HWW.out k hkn)
   have HAk := hid (HAW.out k hkn)
   have HU := hid (sumN_succ ns k hkn)
   have hle : at' + ns[k] ≤ len := by
    have e1 := sumN_le ns (k + 1)
    rw [sumN_succ ns k hkn] at e1
    have e2 := HSL.out
    have e3 := HLEN.out
    have e4 := HLen.out
    omega
   rw [← ha] at HNk HPk
   have hw8 : ns[k] ≤ 8 := by have := wid_cases HWk.out; omega
   generalize ns[k] = m at HNk HWk HAk HU hle hw8
   have z1 : IntKind.u64.wrap (at' : Int) = (at' : Int) := by rw [IntKind.wrap_u64]; omega
   obtain ⟨q1, q2⟩ := hbf.c2
   have HRr : Hid (RB wr w.heap.size A len c l) := HR.out.belowAt hg (Nat.le_refl _)
   clear ha hv hp hbf hkn hg
   go_wp2_with (refine wpList_index rfl 177 3 (.tmp 10) (.tmp 11) rfl 13 _ Tryz.underlying177 Tryz.underlying3 rfl (by kernel_rfl) RW k (.int .i64 (m : Int)) rfl rfl hlt HAk.out ?_)
   refine (get_any A len c l _ at' m big _ HRr.out (by omega)).mono ?_
   rintro e w2 ⟨rfl, j, hw2⟩
   have hgb : gotB l at' m = true := by
    simp only [gotB, HWk.out, Bool.true_and, wthn]
    exact decide_eq_true (by have := HLen.out; omega)
   have hgv : gotV l at' m big = getB ((l.drop at').take m) big := by
    simp only [gotV, hgb, if_true, Int.toNat_natCast]
   rw [hgb, hgv]
   generalize getB ((l.drop at').take m) big = v at HNk ⊢
   have HV2 : Hid (w2.rowIs (S + 1) 176 13 (laidTo .u64 vs k)) := by rw [hw2]; exact HV1.out
   have HP2 : Hid (w2.rowIs (S + 1 + 1) 177 13 (laidTo .i64 ps k)) := by rw [hw2]; exact HP1.out
   have HBF2 : Hid (Blk w2 S 23 #[.bool wide, .bool big]) := by rw [hw2]; exact HBF1.out
   have HG2 : Hid (Grow w w2) := by rw [hw2]; exact HG.out.trans (Grow.of_drewN _ _)
   have c1 := HV2.out.cell hlt
   have f1 := HV2.out.frozen k
   have HV3 := hid (HV2.out.set k (.int .u64 (v : Int)))
   have HP3 := hid (HP2.out.setOther (a := ⟨S + 1, k, none⟩) (show S + 1 + 1 ≠ S + 1 by omega) (.int .u64 (v : Int)))
   have HP4 := hid (HP3.out.set k (.int .i64 (at' : Int)))
   have HV4 := hid (HV3.out.setOther (a := ⟨S + 1 + 1, k, none⟩) (show S + 1 ≠ S + 1 + 1 by omega) (.int .i64 (at' : Int)))
   have c2 := HP3.out.cell hlt
   have f2 := HP3.out.frozen k
   clear z1 q1 q2 hgb hgv hw2 HV1 HP1 HBF1 HG HRr
   have z1 : (0 : Int) ≤ (k : Int) := by omega
   have z2 : (k : Int) < 13 := by omega
   go_wp2_with fail
   go_roundw
   case rel => exact ⟨k + 1, at' + m, by omega, by go_num, by go_num, by rw [HU.out, HA.out]; omega, HV4.out.congr fun j _ => laidTo_succ HNk.out j, HP4.out.congr fun j _ => laidTo_succ HPk.out j,
    (HBF2.out.cellset (show S ≠ S + 1 by omega) _).cellset (show S ≠ S + 1 + 1 by omega) _, Grow.cellset (Grow.cellset HG2.out (by have := HS.out; omega) _ _) (by have := HS.out; omega) _ _⟩
   case measure => simp [intOf]; omega
  ·have e : k = 13 := by omega
   rw [e] at hv hp
   have HV1 := hid (blk_of_rowIs hv HLN.out)
   have HP1 := hid (blk_of_rowIs hp HLP.out)
   have HG := hid hg
   have HS1 : Hid ((u64s vs).size = 13) := hid (by simp [u64s, HLN.out])
   have HS2 : Hid ((i64s ps).size = 13) := hid (by simp [i64s, HLP.out])
   have HO1 := hid (one_u64s vs)
   have HO2 := hid (one_i64s ps)
   have HV2 : Hid (Blk wr (S + 1) 176 (u64s vs)) := HV1.out
   have HP2 : Hid (Blk wr (S + 1 + 1) 177 (i64s ps)) := HP1.out
   generalize hRv : u64s vs = Rv at HV2 HS1 HO1 ⊢
   generalize hRp : i64s ps = Rp at HP2 HS2 HO2 ⊢
   have HRv := hid hRv
   have HRp := hid hRp
   clear hRv hRp hv hp hbf hg HV1 HP1 ha
   go_wp2_with fail
   refine wp_region_leap leap_eq [(0, true), (1, true), (2, false), (3, false)] (by kernel_rfl) (by kernel_rfl) (by kernel_rfl) ?_
   have HG3 : Hid (Grow w wr.drew) := HG.out.trans (Grow.of_drew _)
   have HV3 : Hid (Blk wr.drew (S + 1) 176 Rv) := HV2.out
   have HP3 : Hid (Blk wr.drew (S + 1 + 1) 177 Rp) := HP2.out
   generalize wr.drew = w3 at HG3 HV3 HP3 ⊢
   clear HV2 HP2 HG
   refine chain_take rfl (by rfl) (.agg Rv) (fun W hW => ?_) ?_
   ·subst hW; exact HV3.out.exec 176 (.tmp 4) rfl rfl _ Tryz.underlying176 rfl (by rw [HS1.out]; kernel_rfl)
   refine chain_take rfl (by rfl) (.agg Rp) (fun W hW => ?_) ?_
   ·subst hW; exact HP3.out.exec 177 (.tmp 5) rfl rfl _ Tryz.underlying177 rfl (by rw [HS2.out]; kernel_rfl)
   simp only [Act.put, List.setIfInBounds_toArray, List.set_cons_zero, List.set_cons_succ]
   refine chain_only rfl (by rfl) (fun K hK => ?_)
   refine wp_store_row 176 (.tmp 4) (.tmp 34) rfl (S + 1) Rv rfl rfl _ _ HV3.out (by rw [HS1.out]; kernel_rfl) rfl HO1.out ?_
   refine hK _ _ HV3.out.same ?_
   clear hK K
   rw [HV3.out.same]
   refine chain_only rfl (by rfl) (fun K hK => ?_)
   refine wp_store_row 177 (.tmp 5) (.tmp 35) rfl (S + 1 + 1) Rp rfl rfl _ _ HP3.out (by rw [HS2.out]; kernel_rfl) rfl HO2.out ?_
   refine hK _ _ HP3.out.same ?_
   clear hK K
   rw [HP3.out.same]
   refine chain_done ?_
   go_wp2
   refine bodyPost_ret (results_cell2 rfl _ _ (S + 1) (S + 1 + 1) (.agg Rv) (.agg Rp) rfl rfl (HV3.out.var _ _ Tryz.underlying176 rfl (by rw [HS1.out]; kernel_rfl)) (HP3.out.var _ _ Tryz.underlying177 rfl (by rw [HS2.out]; kernel_rfl))) rfl ?_
   exact ⟨by rw [HRv.out, HRp.out], HG3.out⟩
end Go.Proofs.YtfbimboemahhhaaGreatDoor
