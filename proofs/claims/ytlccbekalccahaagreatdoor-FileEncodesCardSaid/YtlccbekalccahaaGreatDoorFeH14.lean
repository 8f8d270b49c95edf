/-
  Several texts in one: The contract of wire; The contract of wire; Contracts of the document's own Wide (layer 1); The contract of the document's own Fits (layer 1); The contract of the document's own Put (layer 1); The contracts of the document's own Row.
-/
import Derived.Test.YtlccbekalccahaaGreatDoorFeH8
import Derived.Test.YtlccbekalccahaaGreatDoorFeH13
import Derived.Test.YtlccbekalccahaaGreatDoorFeH2
import Derived.Deep.OwnRows
import Derived.Test.YtlccbekalccahaaGreatDoorRows
import Derived.Test.YtlccbekalccahaaGreatDoorFeH4

namespace Go.Proofs.YtlccbekalccahaaGreatDoor
open Go.RowKit

theorem quietL {P : Program} {f : FuncId} {args : Array Value} {w : World} {v : Value}
    (h : Calls P f args w fun e w' => e = .returned v ∧ w = w') : Calls P f args w fun e w' => e = .returned v ∧ w' = w :=
  h.mono fun _ _ hh => ⟨hh.1, hh.2.symm⟩

theorem shl_lt (u r : Nat) (hu : u ≤ 255) (hr : r < 8) : u * 2 ^ (8 * r) < 18446744073709551616 := by
  have h1 : u * 2 ^ (8 * r) ≤ 255 * 2 ^ (8 * r) := Nat.mul_le_mul_right _ hu
  have h2 : 2 ^ (8 * r) ≤ 2 ^ 56 := Nat.pow_le_pow_right (by omega) (by omega)
  omega
theorem shl_fact (u r : Nat) (hu : u ≤ 255) (hr : r < 8) : Op.shift .shl .u64 (u : Int) .u64 (8 * (r : Nat) : Int) = pure (.int .u64 ((u * 2 ^ (8 * r) : Nat) : Int)) := by
  rw [shift_shl_any _ _ _ _ (by omega), show min ((8 * (r : Nat) : Int)).toNat IntKind.u64.bits = 8 * r by simp [IntKind.bits]; omega, IntKind.wrap_u64]
  congr 2
  have h := shl_lt u r hu hr
  have e : (u : Int) * 2 ^ (8 * r) = ((u * 2 ^ (8 * r) : Nat) : Int) := by simp
  rw [e]
  omega
set_option maxHeartbeats 400000 in
theorem get_yes (b off c : Nat) (l : List UInt8) (p n : Nat) (big : Bool) (w : World) (hw : wid n = true) (hp : p + n ≤ l.length) (hl : l.length ≤ c) (hc : c ≤ maxLen)
    (hcell : ∀ j (h : j < l.length), w.cell? ⟨b, off + j, none⟩ = some (.int .u8 (l[j].toNat : Int))) :
    Calls Tryz.prog 111 #[.slice (some ⟨b, off, none⟩) l.length c, .int .u64 p, .int .i64 n, .bool big] w fun e w' =>
      e = .returned (.tuple #[.int .u64 (getB ((l.drop p).take n) big : Nat), .bool true]) ∧ ∃ m, w' = w.drewN m := by
  unfold maxLen at hc
  have hn8 : n ≤ 8 := by have := wid_cases hw; omega
  obtain ⟨q, hq⟩ : ∃ q, q = (l.drop p).take n := ⟨_, rfl⟩
  have hql : q.length = n := by rw [hq]; simp; omega
  have hqc : ∀ j (h : j < q.length), w.cell? ⟨b, off + (p + j), none⟩ = some (.int .u8 (q[j].toNat : Int)) := by
    intro j h
    rw [hcell (p + j) (by omega)]
    simp [hq]
  rw [← hq]
  have H := Lib.hid hw
  have HC := Lib.hid hqc
  have HL := Lib.hid hql
  have HT := Lib.hid (show wthn p n l.length = true from decide_eq_true (by omega))
  clear hw hcell hqc hql hq
  go_enter Tryz.func111, Tryz.ntmps111
  go_wp2_with (first
    | (go_at_call 134; refine (isWidth_any _ _).mono ?_; rintro e w' ⟨rfl, rfl⟩; rw [H.out])
    | (go_at_call 113; refine (within_any _ _ _ _ (by omega) (by omega) (by omega)).mono ?_; rintro e w' ⟨rfl, rfl⟩; rw [HT.out]))
  go_loopw [10, 26] (fun v i wr => ∃ k : Nat, k ≤ n ∧ i = .int .i64 k ∧ v = .int .u64 (part q big k : Nat) ∧ ∃ m, wr = w.drewN m) (fun _ i _ => n - (intOf i).toNat)
  case atStart => exact ⟨0, Nat.zero_le _, rfl, by rw [part_zero]; rfl, 0, rfl⟩
  case round =>
    obtain ⟨k, hk, rfl, rfl, hm⟩ := hrel
    have HM := Lib.hid hm
    have hcw : ∀ a, wr.cell? a = w.cell? a := by obtain ⟨m, rfl⟩ := hm; intro a; rfl
    clear hm
    by_cases hlt : k < n
    · have hkq : k < q.length := by rw [HL.out]; exact hlt
      obtain ⟨u, hu⟩ : ∃ u : UInt8, u = q[k] := ⟨_, rfl⟩
      have hcl : wr.cell? ⟨b, off + (p + k), none⟩ = some (.int .u8 u.toNat) := by rw [hcw, hu]; exact HC.out k hkq
      have HS := Lib.hid (part_succ q big k hkq)
      rw [← hu, HL.out] at HS
      have hu8 : u.toNat ≤ 255 := by have := u.toNat_lt; omega
      clear hu hkq hcw
      go_wp2_with fail
      have z1 : IntKind.u64.wrap (k : Int) = (k : Int) := by rw [IntKind.wrap_u64]; omega
      have z2 : IntKind.u64.wrap ((p : Int) + (k : Int)) = (p : Int) + (k : Int) := by rw [IntKind.wrap_u64]; omega
      have z6 : IntKind.u64.wrap (u.toNat : Int) = (u.toNat : Int) := by rw [IntKind.wrap_u64]; omega
      obtain ⟨x, hx⟩ : ∃ x, x = u.toNat * 2 ^ (8 * rank k n big) := ⟨_, rfl⟩
      have z7 : Op.shift .shl .u64 (u.toNat : Int) .u64 (8 * (rank k n big : Nat) : Int) = pure (.int .u64 (x : Int)) := by rw [hx]; exact shl_fact u.toNat (rank k n big) (by omega) (by have := rank_lt k n big hlt; omega)
      rw [← hx] at HS
      have h1 : part q big k < 18446744073709551616 := Nat.lt_of_lt_of_le (part_lt q big k (by rw [HL.out]; exact hk)) (by rw [HL.out]; exact (Nat.pow_le_pow_right (by omega) hn8 : 256 ^ n ≤ 256 ^ 8))
      have h2 : x < 18446744073709551616 := by rw [hx]; exact shl_lt u.toNat (rank k n big) (by omega) (by have := rank_lt k n big hlt; omega)
      clear hx
      have z3 : (0 : Int) ≤ (p : Int) + (k : Int) := by omega
      have z4 : ((p : Int) + (k : Int)).toNat = p + k := by omega
      have z5 : (p : Int) + (k : Int) < (l.length : Int) := by omega
      go_quiet ((go_at_call 135; exact Calls.quiet_of_same (quietL (shift_any k n big _ hlt hn8))))
      clear z1 z2 z3 z4 z5 z6 z7
      rw [u64_or_nat _ _ h1 h2, ← HS.out]
      clear h1 h2
      go_wp2
      go_roundw
      case rel => exact ⟨k + 1, by omega, by go_num, rfl, by obtain ⟨m, hm⟩ := HM.out; exact ⟨m + nq, by rw [hm, World.drewN_drewN]⟩⟩
      case measure => simp [intOf]; omega
    · go_wp2
      go_ret2
      have e : k = q.length := by rw [HL.out]; omega
      exact ⟨by rw [e, part_all]; rfl, HM.out⟩

def gotB (l : List UInt8) (p n : Int) : Bool := wid n && wthn p n l.length
def gotV (l : List UInt8) (p n : Int) (big : Bool) : Nat := if gotB l p n then getB ((l.drop p.toNat).take n.toNat) big else 0

theorem get_no (A : Option Addr) (len c : Nat) (p n : Int) (big : Bool) (w : World) (hl : len ≤ c) (hc : c ≤ maxLen) (hp : 0 ≤ p) (h : wid n = false ∨ (wid n = true ∧ wthn p n len = false)) :
    Calls Tryz.prog 111 #[.slice A len c, .int .u64 p, .int .i64 n, .bool big] w fun e w' =>
      e = .returned (.tuple #[.int .u64 0, .bool false]) ∧ w = w' := by
  unfold maxLen at hc
  rcases h with h | ⟨h, ht⟩
  · have H := Lib.hid h
    clear h
    go_enter Tryz.func111, Tryz.ntmps111
    go_wp2_with (go_at_call 134; refine (isWidth_any _ _).mono ?_; rintro e w' ⟨rfl, rfl⟩; rw [H.out])
    go_ret2
    exact ⟨rfl, rfl⟩
  · obtain ⟨N, rfl⟩ : ∃ N : Nat, n = N := ⟨n.toNat, by have := wid_cases h; omega⟩
    have hn8 : N ≤ 8 := by have := wid_cases h; omega
    have H := Lib.hid h
    have HT := Lib.hid ht
    clear h ht
    go_enter Tryz.func111, Tryz.ntmps111
    go_wp2_with (first
      | (go_at_call 134; refine (isWidth_any _ _).mono ?_; rintro e w' ⟨rfl, rfl⟩; rw [H.out])
      | (go_at_call 113; refine (within_any _ _ _ _ (by omega) (by omega) (by omega)).mono ?_; rintro e w' ⟨rfl, rfl⟩; rw [HT.out]))
    go_ret2
    exact ⟨rfl, rfl⟩

theorem get_any (A : Option Addr) (len c : Nat) (l : List UInt8) (B : Nat) (p n : Int) (big : Bool) (w : World) (h : RB w B A len c l) (hp : 0 ≤ p) :
    Calls Tryz.prog 111 #[.slice A len c, .int .u64 p, .int .i64 n, .bool big] w fun e w' =>
      e = .returned (.tuple #[.int .u64 (gotV l p n big : Nat), .bool (gotB l p n)]) ∧ ∃ m, w' = w.drewN m := by
  have hl := h.len
  cases hg : gotB l p n
  · have e : gotV l p n big = 0 := by simp [gotV, hg]
    rw [e]
    refine (get_no A len c p n big w h.cap h.max hp ?_).mono fun e w' ⟨h1, h2⟩ => ⟨h1, 0, h2.symm⟩
    rw [hl]
    cases hw : wid n
    · exact .inl rfl
    · exact .inr ⟨rfl, by simpa [gotB, hw] using hg⟩
  · have hw : wid n = true ∧ wthn p n l.length = true := by simpa [gotB] using hg
    obtain ⟨N, rfl⟩ : ∃ N : Nat, n = N := ⟨n.toNat, by have := wid_cases hw.1; omega⟩
    obtain ⟨K, rfl⟩ : ∃ N : Nat, p = N := ⟨p.toNat, by omega⟩
    have hN := wid_cases hw.1
    have hpn := of_decide_eq_true hw.2
    obtain ⟨b, off, rfl, _, hcell⟩ := h.pos (by omega)
    have e : gotV l K N big = getB ((l.drop K).take N) big := by simp [gotV, hg]
    rw [e, hl]
    exact get_yes b off c l K N big w hw.1 (by omega) (by have := h.cap; omega) h.max hcell
end Go.Proofs.YtlccbekalccahaaGreatDoor

namespace Go.Proofs.YtlccbekalccahaaGreatDoor
open Go.RowKit Go.Deep

/-- The call returned a slice of its own that holds the bytes l, and nothing that was there has changed. -/
def Made (l : List UInt8) (w : World) (e : Ending) (w' : World) : Prop :=
  ∃ A c, e = .returned (.slice A l.length c) ∧ OB w' w.heap.size 5 A l.length c l ∧ Below w.heap.size w w'

def putL (v n : Int) (big : Bool) : List UInt8 := if wid n then putB v.toNat n.toNat big else []

theorem put_no (v n : Int) (big : Bool) (w : World) (h : wid n = false) :
    Calls Tryz.prog 95 #[.int .u64 v, .int .i64 n, .bool big] w fun e w' => e = .returned (.slice none 0 0) ∧ w = w' := by
  have H := Lib.hid h
  clear h
  go_enter Tryz.func95, Tryz.ntmps95
  go_wp2_with (go_at_call 134; refine (isWidth_any _ _).mono ?_; rintro e w' ⟨rfl, rfl⟩; rw [H.out])
  go_ret
  exact ⟨rfl, rfl⟩

/-- The first k bytes are written. -/
def wrote (l : List UInt8) (k j : Nat) : Value := .int .u8 (if j < k then (l.getD j 0).toNat else 0 : Nat)

theorem shr_fact (v r : Nat) (hr : r < 8) : Op.shift .shr .u64 (v : Int) .u64 (8 * (r : Nat) : Int) = pure (.int .u64 ((v / 256 ^ r : Nat) : Int)) := by
  rw [shift_shr_any _ _ _ _ (by omega), show min ((8 * (r : Nat) : Int)).toNat IntKind.u64.bits = 8 * r by simp [IntKind.bits]; omega]
  congr 2
  rw [pow256]
  simp

set_option maxHeartbeats 400000 in
theorem put_yes (v n : Nat) (big : Bool) (w : World) (h : wid n = true) :
    Calls Tryz.prog 95 #[.int .u64 v, .int .i64 n, .bool big] w fun e w' => e = .returned (.slice (some ⟨w.heap.size, 0, none⟩) n n) ∧
      w'.rowIs w.heap.size 5 n (wrote (putB v n big) n) ∧ Below w.heap.size w w' := by
  have hn8 : n ≤ 8 := by have := wid_cases h; omega
  have H := Lib.hid h
  have hmk : ∀ W : World, (Instr.makeSlice 35 (.int .i64 (n : Int)) (.int .i64 (n : Int))).run Tryz.prog W = .ok (.slice (some ⟨W.heap.size, 0, none⟩) n n) (W.alloc (.cells (madeCells #[.int .u8 0] n) 5)) :=
    fun W => run_make_row' 35 5 (.int .u8 0) 1 Tryz.underlying35 (by kernel_rfl) rfl _ _ n (by omega) (by omega) W
  have h0 : (w.alloc (.cells (madeCells #[.int .u8 0] n) 5)).rowIs w.heap.size 5 n (wrote (putB v n big) 0) := (World.rowIs_made w (.int .u8 0) n 5).congr fun i _ => by simp [wrote]
  have H0 := Lib.hid h0
  clear h h0
  go_enter Tryz.func95, Tryz.ntmps95
  go_wp2_with (go_at_call 134; refine (isWidth_any _ _).mono ?_; rintro e w' ⟨rfl, rfl⟩; rw [H.out])
  obtain ⟨g, hg⟩ : ∃ g, g = w.heap.size := ⟨_, rfl⟩
  rw [← hg] at H0
  have HG := Lib.hid hg
  rw [← hg]
  clear hmk
  go_loopw [15] (fun i wr => ∃ k : Nat, k ≤ n ∧ i = .int .i64 k ∧ wr.rowIs g 5 n (wrote (putB v n big) k) ∧ Below g w wr) (fun i _ => n - (intOf i).toNat)
  case atStart => exact ⟨0, Nat.zero_le _, rfl, H0.out, (Below.refl _ _).alloc (by omega) _⟩
  case round =>
    obtain ⟨k, hk, rfl, hrow, hbel⟩ := hrel
    clear hg
    by_cases hlt : k < n
    · have hcl := hrow.cell hlt
      have hfz := hrow.frozen k
      have HR := Lib.hid hrow
      have HB := Lib.hid hbel
      have z7 := shr_fact v (rank k n big) (by have := rank_lt k n big hlt; omega)
      obtain ⟨y, hy⟩ : ∃ y, y = v / 256 ^ rank k n big := ⟨_, rfl⟩
      have HY := Lib.hid hy
      rw [← hy] at z7
      clear hrow hbel hy
      go_wp2_with (go_at_call 135; refine (shift_any k n big _ hlt hn8).mono ?_; rintro e w' ⟨rfl, rfl⟩)
      go_roundw
      case rel =>
        refine ⟨k + 1, by omega, by go_num, (HR.out.set k _).congr fun j hj => ?_, HB.out.setCell (Nat.le_refl _) _⟩
        have hyv : (putB v n big).getD j 0 = UInt8.ofNat (v / 256 ^ rank j n big) := by rw [List.getD_eq_getElem?_getD, putB_at v n j big hj]; rfl
        by_cases e : j = k
        · subst e
          simp only [if_true, wrote, Nat.lt_succ_self, hyv, HY.out, toNat_ofNat8]
          simp
        · rw [if_neg e]
          by_cases e2 : j < k
          · simp only [wrote, if_pos e2, if_pos (show j < k + 1 by omega)]
          · simp only [wrote, if_neg e2, if_neg (show ¬ j < k + 1 by omega)]
      case measure => simp [intOf]; omega
    · have HR : Hid (wr.rowIs g 5 n (wrote (putB v n big) n)) := by
        have e : k = n := by omega
        rw [e] at hrow
        exact hrow
      have HB := Lib.hid hbel
      clear hrow hbel
      go_wp2
      go_ret
      rw [← HG.out]
      exact ⟨rfl, HR.out, HB.out⟩

theorem put_any (v n : Int) (big : Bool) (w : World) (h0 : 0 ≤ v) :
    Calls Tryz.prog 95 #[.int .u64 v, .int .i64 n, .bool big] w (Made (putL v n big) w) := by
  cases h : wid n
  · have e : putL v n big = [] := by simp [putL, h]
    rw [e]
    exact (put_no v n big w h).mono fun e w' ⟨h1, h2⟩ => ⟨none, 0, h1, OB.nil, h2 ▸ Below.refl _ _⟩
  · obtain ⟨N, rfl⟩ : ∃ N : Nat, n = N := ⟨n.toNat, by have := wid_cases h; omega⟩
    obtain ⟨V, rfl⟩ : ∃ N : Nat, v = N := ⟨v.toNat, by omega⟩
    have hN8 : N ≤ 8 := by have := wid_cases h; omega
    have e : putL V N big = putB V N big := by simp [putL, h]
    rw [e]
    refine (put_yes V N big w h).mono fun e w' ⟨h1, h2, h3⟩ => ?_
    have hlen := length_putB V N big
    refine ⟨some ⟨w.heap.size, 0, none⟩, N, by rw [hlen]; exact h1, ⟨by simp, .inr ?_⟩, h3⟩
    obtain ⟨c, hb, hn, hc⟩ := h2
    rw [hlen]
    refine ⟨w.heap.size, N, c, rfl, Nat.le_refl _, hb, Nat.le_refl _, by unfold maxLen; omega, by omega, ?_⟩
    apply List.ext_getElem?
    intro i
    by_cases hi : i < N
    · rw [List.getElem?_take_of_lt (by omega), Array.getElem?_toList, hc i hi]
      have := putB_at V N i big hi
      simp [wrote, hi, this, byt]
    · rw [List.getElem?_eq_none (by simp; omega), List.getElem?_eq_none (by simp; omega)]

/-- The same, where the width is known: as many bytes as asked for. -/
theorem put_wide (v : Int) (n : Nat) (big : Bool) (w : World) (h : wid n = true) (h0 : 0 ≤ v) :
    Calls Tryz.prog 95 #[.int .u64 v, .int .i64 n, .bool big] w fun e w' => ∃ A c, e = .returned (.slice A n c) ∧ OB w' w.heap.size 5 A n c (putB v.toNat n big) ∧ Below w.heap.size w w' := by
  refine (put_any v n big w h0).mono fun e w' ⟨A, c, h1, h2, h3⟩ => ?_
  have e1 : putL v n big = putB v.toNat n big := by simp [putL, h]
  rw [e1, length_putB] at h1 h2
  exact ⟨A, c, h1, h2, h3⟩
end Go.Proofs.YtlccbekalccahaaGreatDoor

namespace Go.Proofs.YtlccbekalccahaaGreatDoor
open Go.RowKit

theorem wide_any (n : Int) (w : World) : Calls Tryz.prog 139 #[.int .i64 n] w fun e w' => e = .returned (.bool (wid n)) ∧ w = w' := by
  by_cases h1 : n = 1
  · subst h1
    go_enter Tryz.func139, Tryz.ntmps139
    go_wp2
    go_ret
    exact ⟨rfl, rfl⟩
  by_cases h2 : n = 2
  · subst h2
    go_enter Tryz.func139, Tryz.ntmps139
    go_wp2
    go_ret
    exact ⟨rfl, rfl⟩
  by_cases h4 : n = 4
  · subst h4
    go_enter Tryz.func139, Tryz.ntmps139
    go_wp2
    go_ret
    exact ⟨rfl, rfl⟩
  by_cases h8 : n = 8
  · subst h8
    go_enter Tryz.func139, Tryz.ntmps139
    go_wp2
    go_ret
    exact ⟨rfl, rfl⟩
  have e : wid n = false := by unfold wid; simp [h1, h2, h4, h8]
  have b1 : (n == 1) = false := by simp [h1]
  have b2 : (n == 2) = false := by simp [h2]
  have b4 : (n == 4) = false := by simp [h4]
  have b8 : (n == 8) = false := by simp [h8]
  have E := Lib.hid e
  clear e h1 h2 h4 h8
  go_enter Tryz.func139, Tryz.ntmps139
  go_wp2
  go_ret
  exact ⟨ret_bool E.out.symm, rfl⟩

end Go.Proofs.YtlccbekalccahaaGreatDoor

namespace Go.Proofs.YtlccbekalccahaaGreatDoor
open Go.RowKit

theorem refFits_no (v n : Int) (w : World) (h : wid n = false) :
    Calls Tryz.prog 106 #[.int .u64 v, .int .i64 n] w fun e w' => e = .returned (.bool (fits v n)) ∧ w = w' := by
  have E := Lib.hid (show fits v n = false by simp [fits, h])
  have H := Lib.hid h
  clear h
  by_cases hn : 0 < n
  · go_enter Tryz.func106, Tryz.ntmps106
    go_wp2_with (go_at_call 139; refine (wide_any _ _).mono ?_; rintro e w' ⟨rfl, rfl⟩; rw [H.out])
    go_loop [6] (fun i => i = .int .i64 0) (fun _ => 0)
    case atStart => rfl
    case round =>
      obtain rfl := hrel
      go_wp2
      go_ret
      exact ⟨ret_bool E.out.symm, rfl⟩
  · have hd : decide (0 < n) = false := decide_eq_false hn
    go_enter Tryz.func106, Tryz.ntmps106
    go_wp2_with (go_at_call 139; refine (wide_any _ _).mono ?_; rintro e w' ⟨rfl, rfl⟩; rw [H.out])
    go_loop [6] (fun i => i = .int .i64 0) (fun _ => 0)
    case atStart => rfl
    case round =>
      obtain rfl := hrel
      go_wp2
      go_ret
      exact ⟨ret_bool E.out.symm, rfl⟩

theorem refFits_yes (v n : Nat) (w : World) (h : wid n = true) (hv : v < 18446744073709551616) :
    Calls Tryz.prog 106 #[.int .u64 v, .int .i64 n] w fun e w' => e = .returned (.bool (fits v n)) ∧ w = w' := by
  have hn8 : n ≤ 8 := by have := wid_cases h; omega
  have E := Lib.hid (show fits v n = decide (v / 256 ^ n = 0) by
    simp only [fits, h, Bool.true_and, Int.toNat_natCast]
    rw [Bool.eq_iff_iff, decide_eq_true_iff, decide_eq_true_iff]
    have hp : (0 : Nat) < 256 ^ n := Nat.pow_pos (by omega)
    have e : ((256 : Int) ^ n) = ((256 ^ n : Nat) : Int) := by simp
    rw [e, Nat.div_eq_zero_iff]
    omega)
  have H := Lib.hid h
  clear h
  go_enter Tryz.func106, Tryz.ntmps106
  go_wp2_with (go_at_call 139; refine (wide_any _ _).mono ?_; rintro e w' ⟨rfl, rfl⟩; rw [H.out])
  go_loop [0, 6] (fun x i => ∃ k : Nat, k ≤ n ∧ i = .int .i64 k ∧ x = .int .u64 (v / 256 ^ k : Nat)) (fun _ i => n - (intOf i).toNat)
  case atStart => exact ⟨0, Nat.zero_le _, rfl, by simp⟩
  case round =>
    obtain ⟨k, hk, rfl, rfl⟩ := hrel
    have hy : v / 256 ^ k ≤ v := Nat.div_le_self _ _
    obtain ⟨y, hy0⟩ : ∃ y, y = v / 256 ^ k := ⟨_, rfl⟩
    rw [← hy0] at hy ⊢
    have HY := Lib.hid hy0
    clear hy0
    by_cases hlt : k < n
    · go_wp2
      go_round
      case rel => exact ⟨k + 1, by omega, by go_num, by rw [Nat.pow_succ, ← Nat.div_div_eq_div_mul, ← HY.out]; go_num⟩
      case measure => simp [intOf]; omega
    · have HE : Hid (fits v n = ((y : Int) == 0)) := by
        have e : k = n := by omega
        rw [E.out, HY.out, e, Bool.eq_iff_iff]; simp only [decide_eq_true_iff, beq_iff_eq]; exact Int.natCast_eq_zero.symm
      go_wp2
      go_ret
      exact ⟨ret_bool (by rw [HE.out]), rfl⟩

theorem refFits_any (v n : Int) (w : World) (h0 : 0 ≤ v) (h1 : v ≤ 18446744073709551615) :
    Calls Tryz.prog 106 #[.int .u64 v, .int .i64 n] w fun e w' => e = .returned (.bool (fits v n)) ∧ w = w' := by
  cases h : wid n
  · exact refFits_no v n w h
  · obtain ⟨N, rfl⟩ : ∃ N : Nat, n = N := ⟨n.toNat, by have := wid_cases h; omega⟩
    obtain ⟨V, rfl⟩ : ∃ N : Nat, v = N := ⟨v.toNat, by omega⟩
    exact refFits_yes V N w h (by omega)
end Go.Proofs.YtlccbekalccahaaGreatDoor

namespace Go.Proofs.YtlccbekalccahaaGreatDoor
open Go.RowKit

theorem low_snoc : ∀ (n v : Nat), low (n + 1) v = low n v ++ [UInt8.ofNat (v / 256 ^ n)]
  | 0, v => by simp [low]
  | n + 1, v => by
    rw [low, low_snoc n (v / 256), low, List.cons_append, Nat.div_div_eq_div_mul, Nat.pow_succ, Nat.mul_comm 256]

theorem byt_ofNat (y : Nat) : byt (UInt8.ofNat y) = .int .u8 ((y : Int) % 256) := by
  unfold byt; rw [toNat_ofNat8]; simp
theorem RB.one (w : World) (t : TypeId) (y : Nat) : RB (w.alloc (.cells #[.int .u8 ((y : Int) % 256)] t)) (w.heap.size + 1) (some ⟨w.heap.size, 0, none⟩) 1 1 [UInt8.ofNat y] := by
  rw [← byt_ofNat]; exact RB.lit w t [UInt8.ofNat y] (by unfold maxLen; simp)
theorem OB.one (w : World) (base : Nat) (t : TypeId) (y : Nat) (hb : base ≤ w.heap.size) : OB (w.alloc (.cells #[.int .u8 ((y : Int) % 256)] t)) base t (some ⟨w.heap.size, 0, none⟩) 1 1 [UInt8.ofNat y] := by
  rw [← byt_ofNat]; exact OB.lit w base t [UInt8.ofNat y] (by unfold maxLen; simp) hb

set_option maxHeartbeats 400000 in
theorem refPut_yes (v n : Nat) (big : Bool) (w : World) (h : wid n = true) (hv : v < 18446744073709551616) :
    Calls Tryz.prog 107 #[.int .u64 v, .int .i64 n, .bool big] w (Made (putB v n big) w) := by
  have hn8 : n ≤ 8 := by have := wid_cases h; omega
  have H := Lib.hid h
  clear h
  cases big
  · go_enter Tryz.func107, Tryz.ntmps107
    go_wp2_with (go_at_call 139; refine (wide_any _ _).mono ?_; rintro e w' ⟨rfl, rfl⟩; rw [H.out])
    go_loopw [0, 8, 9] (fun x o i wr => ∃ (k : Nat) (A : Option Addr) (c : Nat), k ≤ n ∧ i = .int .i64 k ∧ x = .int .u64 (v / 256 ^ k : Nat) ∧ o = .slice A k c ∧ OB wr w.heap.size 5 A k c (low k v) ∧ Below w.heap.size w wr) (fun _ _ i _ => n - (intOf i).toNat)
    case atStart => exact ⟨0, none, 0, Nat.zero_le _, rfl, by simp, rfl, OB.nil, Below.refl _ _⟩
    case round =>
      obtain ⟨k, A, c, hk, rfl, rfl, rfl, hown, hbel⟩ := hrel
      have hy : v / 256 ^ k ≤ v := Nat.div_le_self _ _
      obtain ⟨y, hy0⟩ : ∃ y, y = v / 256 ^ k := ⟨_, rfl⟩
      rw [← hy0] at hy ⊢
      have HY := Lib.hid hy0
      have HO := Lib.hid hown
      have HB := Lib.hid hbel
      clear hy0 hown hbel
      by_cases hlt : k < n
      · have HL := Lib.hid (show low k v ++ [UInt8.ofNat y] = low (k + 1) v from (by rw [low_snoc, ← HY.out]))
        go_wp2_with (at_builtin; refine wpList_appendB _ rfl (.tmp 26) (.tmp 30) 35 rfl w.heap.size 5 Tryz.underlying35 (by kernel_rfl) A k c (low k v) rfl (HO.out.alloc _) _ _ 1 1 [UInt8.ofNat y] rfl (RB.one wr 5 y) (by omega) (by have := HB.out.size; simp; omega) ?_; intro A2 c2 w2 ho2 hb2; rw [HL.out] at ho2; have HO2 := Lib.hid ho2; have HB2 := Lib.hid hb2; clear ho2 hb2)
        go_roundw
        case rel => exact ⟨k + 1, A2, c2, by omega, by go_num, by rw [Nat.pow_succ, ← Nat.div_div_eq_div_mul, ← HY.out]; go_num, rfl, HO2.out, (HB.out.alloc HB.out.size _).trans HB2.out⟩
        case measure => simp [intOf]; omega
      · have HE : Hid (OB wr w.heap.size 5 A n c (putB v n false)) := by
          have e : k = n := by omega
          have := HO.out
          rw [e] at this
          exact this
        have e : k = n := by omega
        have HK := Lib.hid e
        clear e
        go_wp2
        go_ret
        refine ⟨A, c, ?_, ?_, HB.out⟩
        · rw [length_putB, ← HK.out]; rfl
        · rw [length_putB]; exact HE.out
  · go_enter Tryz.func107, Tryz.ntmps107
    go_wp2_with (go_at_call 139; refine (wide_any _ _).mono ?_; rintro e w' ⟨rfl, rfl⟩; rw [H.out])
    go_loopw [0, 8, 9] (fun x o i wr => ∃ (k : Nat) (A : Option Addr) (c : Nat), k ≤ n ∧ i = .int .i64 k ∧ x = .int .u64 (v / 256 ^ k : Nat) ∧ o = .slice A k c ∧ OB wr w.heap.size 5 A k c ((low k v).reverse) ∧ Below w.heap.size w wr) (fun _ _ i _ => n - (intOf i).toNat)
    case atStart => exact ⟨0, none, 0, Nat.zero_le _, rfl, by simp, rfl, OB.nil, Below.refl _ _⟩
    case round =>
      obtain ⟨k, A, c, hk, rfl, rfl, rfl, hown, hbel⟩ := hrel
      have hy : v / 256 ^ k ≤ v := Nat.div_le_self _ _
      obtain ⟨y, hy0⟩ : ∃ y, y = v / 256 ^ k := ⟨_, rfl⟩
      rw [← hy0] at hy ⊢
      have HY := Lib.hid hy0
      have HO := Lib.hid hown
      have HB := Lib.hid hbel
      clear hy0 hown hbel
      by_cases hlt : k < n
      · have HL := Lib.hid (show [UInt8.ofNat y] ++ (low k v).reverse = (low (k + 1) v).reverse from (by rw [low_snoc, List.reverse_append, ← HY.out]; rfl))
        go_wp2_with (at_builtin; refine wpList_appendB _ rfl (.tmp 23) (.tmp 24) 35 rfl w.heap.size 5 Tryz.underlying35 (by kernel_rfl) _ 1 1 [UInt8.ofNat y] rfl (OB.one wr w.heap.size 5 y HB.out.size) _ A k c ((low k v).reverse) rfl (HO.out.alloc _).rb (by omega) (by have := HB.out.size; simp; omega) ?_; intro A2 c2 w2 ho2 hb2; rw [HL.out] at ho2; have HO2 := Lib.hid ho2; have HB2 := Lib.hid hb2; clear ho2 hb2)
        go_roundw
        case rel => exact ⟨k + 1, A2, c2, by omega, by go_num, by rw [Nat.pow_succ, ← Nat.div_div_eq_div_mul, ← HY.out]; go_num, by rw [Nat.add_comm], by have := HO2.out; rwa [Nat.add_comm] at this, (HB.out.alloc HB.out.size _).trans HB2.out⟩
        case measure => simp [intOf]; omega
      · have HE : Hid (OB wr w.heap.size 5 A n c (putB v n true)) := by
          have e : k = n := by omega
          have := HO.out
          rw [e] at this
          exact this
        have e : k = n := by omega
        have HK := Lib.hid e
        clear e
        go_wp2
        go_ret
        refine ⟨A, c, ?_, ?_, HB.out⟩
        · rw [length_putB, ← HK.out]; rfl
        · rw [length_putB]; exact HE.out

theorem refPut_no (v n : Int) (big : Bool) (w : World) (h : wid n = false) :
    Calls Tryz.prog 107 #[.int .u64 v, .int .i64 n, .bool big] w fun e w' => e = .returned (.slice none 0 0) ∧ w = w' := by
  have H := Lib.hid h
  clear h
  go_enter Tryz.func107, Tryz.ntmps107
  go_wp2_with (go_at_call 139; refine (wide_any _ _).mono ?_; rintro e w' ⟨rfl, rfl⟩; rw [H.out])
  go_ret
  exact ⟨rfl, rfl⟩

theorem refPut_any (v n : Int) (big : Bool) (w : World) (h0 : 0 ≤ v) (hv : v ≤ 18446744073709551615) :
    Calls Tryz.prog 107 #[.int .u64 v, .int .i64 n, .bool big] w (Made (putL v n big) w) := by
  cases h : wid n
  · have e : putL v n big = [] := by simp [putL, h]
    rw [e]
    exact (refPut_no v n big w h).mono fun e w' ⟨h1, h2⟩ => ⟨none, 0, h1, OB.nil, h2 ▸ Below.refl _ _⟩
  · obtain ⟨N, rfl⟩ : ∃ N : Nat, n = N := ⟨n.toNat, by have := wid_cases h; omega⟩
    obtain ⟨V, rfl⟩ : ∃ N : Nat, v = N := ⟨v.toNat, by omega⟩
    have e : putL V N big = putB V N big := by simp [putL, h]
    rw [e]
    exact refPut_yes V N big w h (by omega)
end Go.Proofs.YtlccbekalccahaaGreatDoor

namespace Go.Proofs.YtlccbekalccahaaGreatDoor
open Go.RowKit

/-- Widths that may be, of few numbers that are no greater than there are. -/
structure Rowed (q : List (Nat × Nat)) : Prop where
  few : q.length ≤ 100
  wide : ∀ k (h : k < q.length), wid q[k].2 = true
  lt : ∀ k (h : k < q.length), q[k].1 < 18446744073709551616

theorem Rowed.wide8 {q : List (Nat × Nat)} (h : Rowed q) (k : Nat) (hk : k < q.length) : q[k].2 ≤ 8 := by
  have := wid_cases (h.wide k hk); omega
theorem rowB_le {q : List (Nat × Nat)} (h : Rowed q) (big : Bool) : ∀ k, k ≤ q.length → (rowB big (q.take k)).length ≤ 8 * k
  | 0, _ => by simp [rowB]
  | k + 1, hk => by
    rw [rowB_succ big q k (by omega), List.length_append, length_putB]
    have := rowB_le h big k (by omega)
    have := h.wide8 k (by omega)
    omega

theorem fits_row (v n : Nat) (h : wid n = true) : fits v n = decide (v < 256 ^ n) := by
  simp only [fits, h, Bool.true_and, Int.toNat_natCast]
  rw [Bool.eq_iff_iff, decide_eq_true_iff, decide_eq_true_iff]
  have e : ((256 : Int) ^ n) = ((256 ^ n : Nat) : Int) := by simp
  rw [e]; omega

set_option maxHeartbeats 400000 in
theorem row_any (q : List (Nat × Nat)) (hq : Rowed q) (A : Option Addr) (n c : Nat) (A' : Option Addr) (n' c' : Nat) (big : Bool) (w : World)
    (h : NS w w.heap.size .u64 A n c (q.map (·.1))) (h' : NS w w.heap.size .i64 A' n' c' (q.map (·.2))) :
    Calls Tryz.prog 54 #[.slice A n c, .slice A' n' c', .bool big] w fun e w' =>
      ∃ A2 c2, e = .returned (.tuple #[.slice A2 (rowB big q).length c2, .bool (rowF q)]) ∧ OB w' w.heap.size 5 A2 (rowB big q).length c2 (rowB big q) ∧ Grow w w' := by
  have hn : n = q.length := by have := h.len; simpa using this
  have hn' : n' = q.length := by have := h'.len; simpa using this
  have hfew := hq.few
  have HN := Lib.hid hn
  have HN' := Lib.hid hn'
  have HQ := Lib.hid hq
  have HS := Lib.hid h
  have HS' := Lib.hid h'
  have hn100 : n ≤ 100 := by omega
  clear h h' hq hn hn' hfew
  go_enter Tryz.func54, Tryz.ntmps54
  go_wp2_with fail
  go_loopw [8, 9, 10] (fun x y i wr => ∃ (k : Nat) (A2 : Option Addr) (c2 : Nat), k ≤ n ∧ i = .int .i64 k ∧ x = .slice A2 (rowB big (q.take k)).length c2 ∧ y = .bool (rowF (q.take k)) ∧
    OB wr w.heap.size 5 A2 (rowB big (q.take k)).length c2 (rowB big (q.take k)) ∧ Below w.heap.size w wr) (fun _ _ i _ => n - (intOf i).toNat)
  case atStart => exact ⟨0, none, 0, Nat.zero_le _, rfl, rfl, rfl, OB.nil, Below.refl _ _⟩
  case round =>
    obtain ⟨k, A2, c2, hk, rfl, rfl, rfl, ho, hb⟩ := hrel
    by_cases hlt : k < n
    · have hkq : k < q.length := by rw [← HN.out]; exact hlt
      obtain ⟨b, off, rfl, hb1, hc1⟩ := HS.out.pos (by omega)
      obtain ⟨b', off', rfl, hb1', hc1'⟩ := HS'.out.pos (by have := HN.out; have := HN'.out; omega)
      have y1 := hc1 k (by simpa using hkq)
      have y2 := hc1' k (by simpa using hkq)
      simp only [List.getElem_map] at y1 y2
      have HB := Lib.hid (rowB_succ big q k hkq)
      have HF := Lib.hid (rowF_succ q k hkq)
      have HW := Lib.hid (HQ.out.wide k hkq)
      have hv := HQ.out.lt k hkq
      have hw8 := HQ.out.wide8 k hkq
      have HLE := Lib.hid (rowB_le HQ.out big k (by omega))
      generalize q[k].1 = v at y1 HB HF hv
      generalize q[k].2 = m at y2 HB HF HW hw8
      have z1 : (0 : Int) ≤ (k : Int) := by omega
      have z2 : (k : Int) < (n : Int) := by omega
      have z3 : (k : Int) < (n' : Int) := by have := HN.out; have := HN'.out; omega
      have HO := Lib.hid ho
      have HG := Lib.hid hb
      clear ho hb hc1 hc1' hkq
      go_wp2_with fail
      refine wp_region_leap (leap_below w.heap.size) [(0, true), (1, true), (2, true), (3, true), (4, true), (5, true), (6, true), (7, true), (8, false), (9, true)] (by kernel_rfl) (by kernel_rfl) (by kernel_rfl) ?_
      have HX : Hid (∀ W, Below w.heap.size wr.drew W → W.cell? ⟨b, off + k, none⟩ = _ ∧ W.cell? ⟨b', off' + k, none⟩ = _) := fun W hW =>
        ⟨((HG.out.trans (show Below w.heap.size wr wr.drew from ⟨rfl, rfl, rfl, Nat.le_refl _, fun _ _ => rfl⟩)).trans hW |>.cell hb1).trans y1, ((HG.out.trans (show Below w.heap.size wr wr.drew from ⟨rfl, rfl, rfl, Nat.le_refl _, fun _ _ => rfl⟩)).trans hW |>.cell hb1').trans y2⟩
      clear y1 y2
      repeat (refine chain_take rfl (by rfl) ?_ (fun W hG => ?_) ?_; rotate_left; (obtain ⟨q1, q2⟩ := HX.out W hG; go_simp; rfl); simp only [Act.put, List.setIfInBounds_toArray, List.set_cons_zero, List.set_cons_succ])
      refine chain_only rfl (by rfl) (fun K hK => ?_)
      go_simp
      refine (refFits_any v m _ (by omega) (by omega)).mono ?_
      rintro e w2 ⟨rfl, rfl⟩
      refine hK _ _ (Below.refl _ _) ?_
      clear hK K
      rw [fits_row v m HW.out]
      repeat (refine chain_take rfl (by rfl) ?_ (fun W hG => ?_) ?_; rotate_left; (go_simp; rfl); simp only [Act.put, List.setIfInBounds_toArray, List.set_cons_zero, List.set_cons_succ])
      refine chain_done ?_
      generalize decide (v < 256 ^ m) = f at HF
      have HG1 : Hid (Below w.heap.size w wr.drew) := HG.out.trans ⟨rfl, rfl, rfl, Nat.le_refl _, fun _ _ => rfl⟩
      have HO1 : Hid (OB wr.drew _ _ _ _ _ _) := HO.out
      generalize wr.drew = w1 at HX HG1 HO1 ⊢
      clear HO HG
      generalize rowF (q.take k) = al at HF ⊢
      cases al
      all_goals
        simp only [Bool.true_and, Bool.false_and] at HF
        go_wp2_with fail
        refine wp_region_leap (leap_below w.heap.size) [(0, true), (1, true), (2, true), (3, true), (4, true), (5, true), (6, true), (7, true), (8, true), (9, true), (10, false), (11, false), (12, true)] (by kernel_rfl) (by kernel_rfl) (by kernel_rfl) ?_
        have HX2 : Hid (∀ W, Below w.heap.size w1.drew W → _) := fun W hW => HX.out W ((show Below w.heap.size w1 w1.drew from ⟨rfl, rfl, rfl, Nat.le_refl _, fun _ _ => rfl⟩).trans hW)
        have HO2 : Hid (OB w1.drew _ _ _ _ _ _) := HO1.out
        have HG2 : Hid (Below w.heap.size w w1.drew) := HG1.out.trans ⟨rfl, rfl, rfl, Nat.le_refl _, fun _ _ => rfl⟩
        generalize w1.drew = w2 at HX2 HO2 HG2 ⊢
        clear HX HO1 HG1
        repeat (refine chain_take rfl (by rfl) ?_ (fun W hG => ?_) ?_; rotate_left; (obtain ⟨q1, q2⟩ := HX2.out W hG; go_simp; rfl); simp only [Act.put, List.setIfInBounds_toArray, List.set_cons_zero, List.set_cons_succ])
        refine chain_only rfl (by rfl) (fun K hK => ?_)
        go_simp
        refine (refPut_any v m big _ (by omega) (by omega)).mono ?_
        rintro e w3 ⟨A3, c3, rfl, ho3, hb3⟩
        refine hK _ _ (hb3.mono HG2.out.size) ?_
        clear hK K
        have HO3 := Lib.hid ho3
        have HO4 := Lib.hid (HO2.out.keep hb3)
        have HG3 : Hid (Below w.heap.size w w3) := HG2.out.trans (hb3.mono HG2.out.size)
        clear ho3 hb3 HO2 HG2 HX2
        have hpl : putL v m big = putB v m big := by simp [putL, HW.out]
        rw [hpl, length_putB] at HO3 ⊢
        clear hpl
        refine chain_only rfl (by rfl) (fun K hK => ?_)
        refine wp_appendB w3 (.tmp 31) (.tmp 41) 35 rfl w.heap.size 5 Tryz.underlying35 (by kernel_rfl) A2 _ c2 _ rfl HO4.out w3.heap.size A3 m c3 _ rfl HO3.out.rb (by have := HLE.out; omega) HG3.out.size ?_
        intro A5 c5 w5 ho5 hb5
        refine hK _ _ hb5 ?_
        clear hK K
        have HO5 := Lib.hid ho5
        have HG5 : Hid (Below w.heap.size w w5) := HG3.out.trans hb5
        rw [← HB.out] at HO5
        have hm : (rowB big (q.take k)).length + m = (rowB big (q.take (k + 1))).length := by rw [HB.out, List.length_append, length_putB]
        rw [hm] at HO5 ⊢
        clear ho5 hb5 hm HO3 HO4 HG3
        repeat (refine chain_take rfl (by rfl) ?_ (fun W hG => ?_) ?_; rotate_left; (go_simp; rfl); simp only [Act.put, List.setIfInBounds_toArray, List.set_cons_zero, List.set_cons_succ])
        refine chain_done ?_
        go_wp2
        go_roundw
        case rel => exact ⟨k + 1, A5, c5, by omega, by go_num, rfl, by rw [HF.out], HO5.out, HG5.out⟩
        case measure => simp [intOf]; omega
    · have HK : Hid (q.take k = q) := by
        have e : k = n := by omega
        rw [e, HN.out]
        exact List.take_length
      rw [HK.out] at ho ⊢
      have HO := Lib.hid ho
      have HG := Lib.hid hb
      clear ho hb
      go_wp2
      go_ret2
      exact ⟨A2, c2, rfl, HO.out, HG.out⟩
end Go.Proofs.YtlccbekalccahaaGreatDoor
