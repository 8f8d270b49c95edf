/-
  Several texts in one: The contracts of head; The contract of wire; The contract of wire; The contract of head.
-/
import Derived.Test.YtaianmonokeimaaIbH14
import Derived.Test.YtaianmonokeimaaIbH8
namespace Go.Proofs.Ytaianmonokeimaa
open Go.Lib (hid)
open Go.RowKit
set_option maxRecDepth 100000
theorem numbers_any (h : Hd) (ok : h.Ok) (w : World) : Calls Try.prog 34 #[h.V] w fun e w' => e = .returned (.agg (u64s h.N)) ∧ Grow w w' := by
 obtain ⟨wide, big, o, a, ty, ma, en, ph, sh, fl, pn, sn, st⟩ := h
 obtain ⟨k1, k2, k3, k4, k5, k6, k7, k8, k9⟩ := ok
 unfold Hd.V Hd.C
 simp only [] at *
 generalize (o.toNat : Int) = ov
 generalize (a.toNat : Int) = av
 go_enter Try.func34, Try.ntmps34
 go_wp2_with fail
 generalize hW : World.alloc _ _ = W0
 obtain ⟨b1, b2, b3, hg0⟩ := blk3 hW
 clear hW
 refine wp_region_leap (leap_bar (w.heap.size + 1)) [(0, true), (1, true), (2, true), (3, true), (4, true), (5, true), (6, true), (7, true), (8, true), (9, true), (10, true), (11, true), (12, true), (13, true), (14, true), (15, true), (18, true), (19, true), (20, true), (21, true), (24, true), (25, true), (26, true), (27, true), (28, true), (29, true), (30, true), (33, true), (34, true), (35, true), (36, true), (37, true), (38, true), (16, false), (17, true), (22, false), (23, false), (31, false), (32, false), (39, true), (40, false)] (by kernel_rfl) (by kernel_rfl) (by kernel_rfl) ?_
 have HG : Hid (Grow w W0.drew) := hg0.trans (Grow.of_drew _)
 have b1' := b1.drew
 have b2' := b2.drew
 have b3' := b3.drew
 generalize W0.drew = W1 at b1' b2' b3' HG ⊢
 have HX : Hid (∀ W, Bar (w.heap.size + 1) W1 W → _ ∧ _) := fun W hG => ⟨(b1'.bar hG (by omega)).c13, (b3'.bar hG (by omega)).c2⟩
 have HB := hid b2'
 clear b1 b2 b3 b1' b2' b3' hg0
 have z1 : IntKind.u64.wrap (ty : Int) = (ty : Int) := by rw [IntKind.wrap_u64]; omega
 have z2 : IntKind.u64.wrap (ma : Int) = (ma : Int) := by rw [IntKind.wrap_u64]; omega
 have z3 : IntKind.u64.wrap (fl : Int) = (fl : Int) := by rw [IntKind.wrap_u64]; omega
 have z4 : IntKind.u64.wrap (pn : Int) = (pn : Int) := by rw [IntKind.wrap_u64]; omega
 have z5 : IntKind.u64.wrap (sn : Int) = (sn : Int) := by rw [IntKind.wrap_u64]; omega
 have z6 : IntKind.u64.wrap (st : Int) = (st : Int) := by rw [IntKind.wrap_u64]; omega
 repeat (refine chain_take rfl (by rfl) ?_ (fun W hG => ?_) ?_; rotate_left; (obtain ⟨⟨x0, x1, x2, x3, x4, x5, x6, x7, x8, x9, x10, x11, x12⟩, y0, y1⟩ := HX.out W hG; go_simp; rfl); simp only [Act.put, List.setIfInBounds_toArray, List.set_cons_zero, List.set_cons_succ])
 clear HX z1 z2 z3 z4 z5 z6
 refine chain_only rfl (by rfl) (fun K hK => ?_)
 go_simp
 refine (hSize_any wide big _).mono ?_
 rintro e W2 ⟨rfl, hg⟩
 refine hK _ _ (Bar.of_grow hg) ?_
 clear hK K
 replace HG : Hid (Grow w W2) := HG.out.trans hg
 replace HB := hid (HB.out.grow hg)
 clear hg
 have s1 : hSize wide < 1000 := by cases wide <;> decide
 have z1 : IntKind.u64.wrap (hSize wide : Int) = (hSize wide : Int) := by rw [IntKind.wrap_u64]; omega
 repeat (refine chain_take rfl (by rfl) ?_ (fun W hG => ?_) ?_; rotate_left; (go_simp; rfl); simp only [Act.put, List.setIfInBounds_toArray, List.set_cons_zero, List.set_cons_succ])
 clear z1 s1
 refine chain_only rfl (by rfl) (fun K hK => ?_)
 go_simp
 refine (byClass_any wide big 32 56 _).mono ?_
 rintro e W3 ⟨rfl, hg⟩
 refine hK _ _ (Bar.of_grow hg) ?_
 clear hK K
 replace HG : Hid (Grow w W3) := HG.out.trans hg
 replace HB := hid (HB.out.grow hg)
 clear hg
 refine chain_only rfl (by rfl) (fun K hK => ?_)
 go_simp
 refine (sizeIf_any _ (byWide wide 32 56) _ (by cases wide <;> decide)).mono ?_
 rintro e W4 ⟨rfl, rfl⟩
 refine hK _ _ ((leap_bar _).refl _) ?_
 clear hK K
 refine chain_only rfl (by rfl) (fun K hK => ?_)
 go_simp
 refine (byClass_any wide big 40 64 _).mono ?_
 rintro e W4 ⟨rfl, hg⟩
 refine hK _ _ (Bar.of_grow hg) ?_
 clear hK K
 replace HG : Hid (Grow w W4) := HG.out.trans hg
 replace HB := hid (HB.out.grow hg)
 clear hg
 refine chain_only rfl (by rfl) (fun K hK => ?_)
 go_simp
 refine (sizeIf_any _ (byWide wide 40 64) _ (by cases wide <;> decide)).mono ?_
 rintro e W5 ⟨rfl, rfl⟩
 refine hK _ _ ((leap_bar _).refl _) ?_
 clear hK K
 repeat (refine chain_take rfl (by rfl) ?_ (fun W hG => ?_) ?_; rotate_left; (go_simp; rfl); simp only [Act.put, List.setIfInBounds_toArray, List.set_cons_zero, List.set_cons_succ])
 refine chain_only rfl (by rfl) (fun K hK => ?_)
 refine wp_store_row 95 (.tmp 2) (.tmp 46) rfl (w.heap.size + 1) (u64s (Hd.N ⟨wide, big, o, a, ty, ma, en, ph, sh, fl, pn, sn, st⟩)) rfl rfl _ _ HB.out (by kernel_rfl) rfl (one_u64s _) ?_
 refine hK _ _ (Bar.set _ _ _) ?_
 clear hK K
 refine chain_done ?_
 have HB5 := hid (HB.out.set (u64s (Hd.N ⟨wide, big, o, a, ty, ma, en, ph, sh, fl, pn, sn, st⟩)))
 have HG5 : Hid (Grow w _) := Grow.set HG.out (Nat.le_succ _) (u64s (Hd.N ⟨wide, big, o, a, ty, ma, en, ph, sh, fl, pn, sn, st⟩))
 generalize W4.setRow (w.heap.size + 1) (u64s (Hd.N ⟨wide, big, o, a, ty, ma, en, ph, sh, fl, pn, sn, st⟩)) = W6 at HB5 HG5 ⊢
 generalize hR : u64s (Hd.N ⟨wide, big, o, a, ty, ma, en, ph, sh, fl, pn, sn, st⟩) = R at HB5 ⊢
 have HR := hid hR
 clear HB HG hR
 go_wp2
 refine bodyPost_ret (results_cell_row (cs := R) rfl _ _ (w.heap.size + 1) _ (0, 0) _ rfl HB5.out Try.underlying95 rfl (by kernel_rfl)) rfl ?_
 exact ⟨by rw [HR.out], HG5.out⟩
theorem header_any (wide big : Bool) (o a : UInt8) (x0 x1 x2 x3 x4 x5 x6 x7 x8 x9 x10 x11 x12 : Nat) (w : World)
  (k0 : x0 < 65536) (k1 : x1 < 65536) (k6 : x6 < 4294967296) (k9 : x9 < 65536) (k11 : x11 < 65536) (k12 : x12 < 65536) :
  Calls Try.prog 33 #[idV wide big o a, .agg (u64s [x0, x1, x2, x3, x4, x5, x6, x7, x8, x9, x10, x11, x12])] w fun e w' =>
   e = .returned (Hd.V ⟨wide, big, o, a, x0, x1, x3, x4, x5, x6, x9, x11, x12⟩) ∧ Grow w w' := by
 have z0 : IntKind.u16.wrap (x0 : Int) = (x0 : Int) := by rw [IntKind.wrap_u16]; omega
 have z1 : IntKind.u16.wrap (x1 : Int) = (x1 : Int) := by rw [IntKind.wrap_u16]; omega
 have z6 : IntKind.u32.wrap (x6 : Int) = (x6 : Int) := by rw [IntKind.wrap_u32]; omega
 have z9 : IntKind.u16.wrap (x9 : Int) = (x9 : Int) := by rw [IntKind.wrap_u16]; omega
 have z11 : IntKind.u16.wrap (x11 : Int) = (x11 : Int) := by rw [IntKind.wrap_u16]; omega
 have z12 : IntKind.u16.wrap (x12 : Int) = (x12 : Int) := by rw [IntKind.wrap_u16]; omega
 clear k0 k1 k6 k9 k11 k12
 obtain ⟨R, hR⟩ : ∃ R, R = Hd.C ⟨wide, big, o, a, x0, x1, x3, x4, x5, x6, x9, x11, x12⟩ := ⟨_, rfl⟩
 have HR := hid hR
 have h1 := Hd.one ⟨wide, big, o, a, x0, x1, x3, x4, x5, x6, x9, x11, x12⟩
 rw [← hR] at h1
 have H1 := hid h1
 unfold Hd.C at hR
 simp only [] at hR
 unfold Hd.V
 rw [← HR.out]
 unfold idV u64s
 simp only [List.map_cons, List.map_nil]
 generalize (o.toNat : Int) = ov at hR ⊢
 generalize (a.toNat : Int) = av at hR ⊢
 have HR2 := hid hR
 clear h1 hR HR
 go_enter Try.func33, Try.ntmps33
 go_wp2_with (refine wpList_store_row rfl 64 (.tmp 4) (.tmp 30) rfl (w.heap.size + 1 + 1) R rfl (by rw [HR2.out]; rfl) _ _ (blk3 rfl).2.2.1 (by rw [HR2.out]; kernel_rfl) (by rw [HR2.out]; rfl) H1.out ?_)
 refine bodyPost_ret (results_cell_row (cs := R) rfl _ _ (w.heap.size + 1 + 1) _ (0, 0) _ rfl ((blk3 rfl).2.2.1.set R) Try.underlying64 rfl (by rw [HR2.out]; kernel_rfl)) rfl ?_
 exact ⟨rfl, Grow.set (blk3 rfl).2.2.2 (by omega) R⟩
def mayAny (i : Nat) (pn sh : Nat) : Bool := (i == 8) && (pn == 0) || (i == 10) && (sh == 0)
theorem mayBeAny_any (h : Hd) (i : Nat) (w : World) : Calls Try.prog 35 #[.int .i64 i, h.V] w fun e w' => e = .returned (.bool (mayAny i h.pn h.sh)) ∧ Grow w w' := by
 obtain ⟨wide, big, o, a, ty, ma, en, ph, sh, fl, pn, sn, st⟩ := h
 unfold Hd.V Hd.C
 simp only []
 generalize (o.toNat : Int) = ov
 generalize (a.toNat : Int) = av
 have E : Hid (mayAny i pn sh = (((i : Int) == 8) && ((pn : Int) == 0) || ((i : Int) == 10) && ((sh : Int) == 0))) := by
  have h1 : ∀ x y : Nat, (x == y) = ((x : Int) == (y : Int)) := fun x y => by rw [Bool.eq_iff_iff, beq_iff_eq, beq_iff_eq]; omega
  unfold mayAny
  rw [h1, h1, h1, h1]
  exact hid rfl
 generalize mayAny i pn sh = r at E ⊢
 by_cases h8 : i = 8
 ·subst h8
  by_cases hp : pn = 0
  ·subst hp
   go_enter Try.func35, Try.ntmps35
   go_wp2
   go_ret
   exact ⟨by rw [E.out]; rfl, Grow.of_alloc _ _⟩
  ·have q : ((pn : Int) == 0) = false := by simp; omega
   rw [q] at E
   clear hp
   go_enter Try.func35, Try.ntmps35
   go_wp2
   go_ret
   exact ⟨by rw [E.out]; rfl, Grow.of_alloc _ _⟩
 ·have q8 : ((i : Int) == 8) = false := by simp; omega
  by_cases h10 : i = 10
  ·subst h10
   go_enter Try.func35, Try.ntmps35
   go_wp2
   go_ret
   exact ⟨by rw [E.out]; rfl, Grow.of_alloc _ _⟩
  ·have q10 : ((i : Int) == 10) = false := by simp; omega
   rw [q8, q10] at E
   clear h8 h10
   go_enter Try.func35, Try.ntmps35
   go_wp2
   go_ret
   exact ⟨by rw [E.out]; rfl, Grow.of_alloc _ _⟩
theorem shift_any (i n : Nat) (big : Bool) (w : World) (hi : i < n) (hn : n ≤ 8) : Calls Try.prog 74 #[.int .i64 i, .int .i64 n, .bool big] w fun e w' => e = .returned (.int .u64 (8 * (rank i n big : Nat) : Int)) ∧ w = w' := by
 cases big
 ·go_enter Try.func74, Try.ntmps74
  go_wp2
  go_ret
  exact ⟨ret_int (by simp [rank]), rfl⟩
 ·go_enter Try.func74, Try.ntmps74
  go_wp2
  go_ret
  exact ⟨ret_int (by simp [rank]; omega), rfl⟩
theorem quietL {P : Program} {f : FuncId} {args : Array Value} {w : World} {v : Value}
  (h : Calls P f args w fun e w' => e = .returned v ∧ w = w') : Calls P f args w fun e w' => e = .returned v ∧ w' = w :=
 h.mono fun _ _ hh => ⟨hh.1, hh.2.symm⟩
theorem shl_lt (u r : Nat) (hu : u ≤ 255) (hr : r < 8) : u * 2 ^ (8 * r) < 18446744073709551616 := by
 have h1 : u * 2 ^ (8 * r) ≤ 255 * 2 ^ (8 * r) := Nat.mul_le_mul_right _ hu
 have h2 : 2 ^ (8 * r) ≤ 2 ^ 56 := Nat.pow_le_pow_right (by omega) (by omega)
 omega
theorem shl_fact (u r : Nat) (hu : u ≤ 255) (hr : r < 8) : Op.shift .shl .u64 (u : Int) .u64 (8 * (r : Nat) : Int) = pure (.int .u64 ((u * 2 ^ (8 * r) : Nat) : Int)) := by
 rw [shift_shl_any _ _ _ _ (by omega), show min ((8 * (r : Nat) : Int)).toNat IntKind.u64.bits = 8 * r by simp [IntKind.bits]; omega, IntKind.wrap_u64]
 congr 2
 have h := shl_lt u r hu hr
 have e : (u : Int) * 2 ^ (8 * r) = ((u * 2 ^ (8 * r) : Nat) : Int) := by simp
 rw [e]
 omega
set_option maxHeartbeats 400000 in
theorem get_yes (b off c : Nat) (l : List UInt8) (p n : Nat) (big : Bool) (w : World) (hw : wid n = true) (hp : p + n ≤ l.length) (hl : l.length ≤ c) (hc : c ≤ maxLen)
  (hcell : ∀ j (h : j < l.length), w.cell? ⟨b, off + j, none⟩ = some (.int .u8 (l[j].toNat : Int))) :
  Calls Try.prog 58 #[.slice (some ⟨b, off, none⟩) l.length c, .int .u64 p, .int .i64 n, .bool big] w fun e w' =>
   e = .returned (.tuple #[.int .u64 (getB ((l.drop p).take n) big : Nat), .bool true]) ∧ ∃ m, w' = w.drewN m := by
 unfold maxLen at hc
 have hn8 : n ≤ 8 := by have := wid_cases hw; omega
 obtain ⟨q, hq⟩ : ∃ q, q = (l.drop p).take n := ⟨_, rfl⟩
 have hql : q.length = n := by rw [hq]; simp; omega
 have hqc : ∀ j (h : j < q.length), w.cell? ⟨b, off + (p + j), none⟩ = some (.int .u8 (q[j].toNat : Int)) := by
  intro j h
  rw [hcell (p + j) (by omega)]
  simp [hq]
 rw [← hq]
 have H := hid hw
 have HC := hid hqc
 have HL := hid hql
 have HT := hid (show wthn p n l.length = true from decide_eq_true (by omega))
 clear hw hcell hqc hql hq
 go_enter Try.func58, Try.ntmps58
 go_wp2_with (first
  | (go_at_call 73; refine (isWidth_any _ _).mono ?_; rintro e w' ⟨rfl, rfl⟩; rw [H.out])
  | (go_at_call 60; refine (within_any _ _ _ _ (by omega) (by omega) (by omega)).mono ?_; rintro e w' ⟨rfl, rfl⟩; rw [HT.out]))
 go_loopw [10, 26] (fun v i wr => ∃ k : Nat, k ≤ n ∧ i = .int .i64 k ∧ v = .int .u64 (part q big k : Nat) ∧ ∃ m, wr = w.drewN m) (fun _ i _ => n - (intOf i).toNat)
 case atStart => exact ⟨0, Nat.zero_le _, rfl, by rw [part_zero]; rfl, 0, rfl⟩
 case round =>
  obtain ⟨k, hk, rfl, rfl, hm⟩ := hrel
  have HM := hid hm
  have hcw : ∀ a, wr.cell? a = w.cell? a := by obtain ⟨m, rfl⟩ := hm; intro a; rfl
  clear hm
  by_cases hlt : k < n
  ·have hkq : k < q.length := by rw [HL.out]; exact hlt
   obtain ⟨u, hu⟩ : ∃ u : UInt8, u = q[k] := ⟨_, rfl⟩
   have hcl : wr.cell? ⟨b, off + (p + k), none⟩ = some (.int .u8 u.toNat) := by rw [hcw, hu]; exact HC.out k hkq
   have HS := hid (part_succ q big k hkq)
   rw [← hu, HL.out] at HS
   have hu8 : u.toNat ≤ 255 := by have := u.toNat_lt; omega
   clear hu hkq hcw
   go_wp2_with fail
   have z1 : IntKind.u64.wrap (k : Int) = (k : Int) := by rw [IntKind.wrap_u64]; omega
   have z2 : IntKind.u64.wrap ((p : Int) + (k : Int)) = (p : Int) + (k : Int) := by rw [IntKind.wrap_u64]; omega
   have z6 : IntKind.u64.wrap (u.toNat : Int) = (u.toNat : Int) := by rw [IntKind.wrap_u64]; omega
   obtain ⟨x, hx⟩ : ∃ x, x = u.toNat * 2 ^ (8 * rank k n big) := ⟨_, rfl⟩
   have z7 : Op.shift .shl .u64 (u.toNat : Int) .u64 (8 * (rank k n big : Nat) : Int) = pure (.int .u64 (x : Int)) := by rw [hx]; exact shl_fact u.toNat (rank k n big) (by omega) (by have := rank_lt k n big hlt; omega)
   rw [← hx] at HS
   have h1 : part q big k < 18446744073709551616 := Nat.lt_of_lt_of_le (part_lt q big k (by rw [HL.out]; exact hk)) (by rw [HL.out]; exact (Nat.pow_le_pow_right (by omega) hn8 : 256 ^ n ≤ 256 ^ 8))
   have h2 : x < 18446744073709551616 := by rw [hx]; exact shl_lt u.toNat (rank k n big) (by omega) (by have := rank_lt k n big hlt; omega)
   clear hx
   have z3 : (0 : Int) ≤ (p : Int) + (k : Int) := by omega
   have z4 : ((p : Int) + (k : Int)).toNat = p + k := by omega
   have z5 : (p : Int) + (k : Int) < (l.length : Int) := by omega
   go_quiet ((go_at_call 74; exact Calls.quiet_of_same (quietL (shift_any k n big _ hlt hn8))))
   clear z1 z2 z3 z4 z5 z6 z7
   rw [u64_or_nat _ _ h1 h2, ← HS.out]
   clear h1 h2
   go_wp2
   go_roundw
   case rel => exact ⟨k + 1, by omega, by go_num, rfl, by obtain ⟨m, hm⟩ := HM.out; exact ⟨m + nq, by rw [hm, World.drewN_drewN]⟩⟩
   case measure => simp [intOf]; omega
  ·go_wp2
   go_ret2
   have e : k = q.length := by rw [HL.out]; omega
   exact ⟨by rw [e, part_all]; rfl, HM.out⟩
def gotB (l : List UInt8) (p n : Int) : Bool := wid n && wthn p n l.length
def gotV (l : List UInt8) (p n : Int) (big : Bool) : Nat := if gotB l p n then getB ((l.drop p.toNat).take n.toNat) big else 0
theorem get_no (A : Option Addr) (len c : Nat) (p n : Int) (big : Bool) (w : World) (hl : len ≤ c) (hc : c ≤ maxLen) (hp : 0 ≤ p) (h : wid n = false ∨ (wid n = true ∧ wthn p n len = false)) :
  Calls Try.prog 58 #[.slice A len c, .int .u64 p, .int .i64 n, .bool big] w fun e w' =>
   e = .returned (.tuple #[.int .u64 0, .bool false]) ∧ w = w' := by
 unfold maxLen at hc
 rcases h with h | ⟨h, ht⟩
 ·have H := hid h
  clear h
  go_enter Try.func58, Try.ntmps58
  go_wp2_with (go_at_call 73; refine (isWidth_any _ _).mono ?_; rintro e w' ⟨rfl, rfl⟩; rw [H.out])
  go_ret2
  exact ⟨rfl, rfl⟩
 ·obtain ⟨N, rfl⟩ : ∃ N : Nat, n = N := ⟨n.toNat, by have := wid_cases h; omega⟩
  have hn8 : N ≤ 8 := by have := wid_cases h; omega
  have H := hid h
  have HT := hid ht
  clear h ht
  go_enter Try.func58, Try.ntmps58
  go_wp2_with (first
   | (go_at_call 73; refine (isWidth_any _ _).mono ?_; rintro e w' ⟨rfl, rfl⟩; rw [H.out])
   | (go_at_call 60; refine (within_any _ _ _ _ (by omega) (by omega) (by omega)).mono ?_; rintro e w' ⟨rfl, rfl⟩; rw [HT.out]))
  go_ret2
  exact ⟨rfl, rfl⟩
theorem get_any (A : Option Addr) (len c : Nat) (l : List UInt8) (B : Nat) (p n : Int) (big : Bool) (w : World) (h : RB w B A len c l) (hp : 0 ≤ p) :
  Calls Try.prog 58 #[.slice A len c, .int .u64 p, .int .i64 n, .bool big] w fun e w' =>
   e = .returned (.tuple #[.int .u64 (gotV l p n big : Nat), .bool (gotB l p n)]) ∧ ∃ m, w' = w.drewN m := by
 have hl := h.len
 cases hg : gotB l p n
 ·have e : gotV l p n big = 0 := by simp [gotV, hg]
  rw [e]
  refine (get_no A len c p n big w h.cap h.max hp ?_).mono fun e w' ⟨h1, h2⟩ => ⟨h1, 0, h2.symm⟩
  rw [hl]
  cases hw : wid n
  ·exact .inl rfl
  ·exact .inr ⟨rfl, by simpa [gotB, hw] using hg⟩
 ·have hw : wid n = true ∧ wthn p n l.length = true := by simpa [gotB] using hg
  obtain ⟨N, rfl⟩ : ∃ N : Nat, n = N := ⟨n.toNat, by have := wid_cases hw.1; omega⟩
  obtain ⟨K, rfl⟩ : ∃ N : Nat, p = N := ⟨p.toNat, by omega⟩
  have hN := wid_cases hw.1
  have hpn := of_decide_eq_true hw.2
  obtain ⟨b, off, rfl, _, hcell⟩ := h.pos (by omega)
  have e : gotV l K N big = getB ((l.drop K).take N) big := by simp [gotV, hg]
  rw [e, hl]
  exact get_yes b off c l K N big w hw.1 (by omega) (by have := h.cap; omega) h.max hcell
set_option maxRecDepth 100000
def hPl (wide : Bool) : List Nat := (List.range 13).map fun k => 16 + sumN ((hRow wide).take k)
theorem hPl_at (wide : Bool) (k : Nat) (h : k < 13) : (hPl wide)[k]? = some (16 + sumN ((hRow wide).take k)) := by simp [hPl, h]
theorem sum_hRow (wide : Bool) : 16 + sumN (hRow wide) = hSize wide := by cases wide <;> rfl
theorem wid_hRow (wide : Bool) (k : Nat) (h : k < (hRow wide).length) : wid ((hRow wide)[k] : Nat) = true := by
 have hw : wid (byWide wide 4 8 : Nat) = true := by cases wide <;> rfl
 match k, h with
 | 0, _ => rfl
 | 1, _ => rfl
 | 2, _ => rfl
 | 3, _ => exact hw
 | 4, _ => exact hw
 | 5, _ => exact hw
 | 6, _ => rfl
 | 7, _ => rfl
 | 8, _ => rfl
 | 9, _ => rfl
 | 10, _ => rfl
 | 11, _ => rfl
 | 12, _ => rfl
set_option maxHeartbeats 400000 in
theorem hRead_any (A : Option Addr) (len c : Nat) (l : List UInt8) (wide big : Bool) (w : World) (h : RB w w.heap.size A len c l) (hlen : hSize wide ≤ l.length) :
  Calls Try.prog 32 #[.slice A len c, .agg #[.bool wide, .bool big]] w fun e w' =>
   e = .returned (.tuple #[.agg (u64s (nums l big 16 (hRow wide))), .agg (i64s (hPl wide))]) ∧ Grow w w' := by
 have HWi := hid (fun w => widths_any wide big w)
 have HR := hid h
 have HLEN := hid hlen
 have HWW := hid (wid_hRow wide)
 have HNA := hid (nums_at l big (hRow wide) 16)
 have HPA := hid (hPl_at wide)
 have HLN : Hid ((nums l big 16 (hRow wide)).length = 13) := hid (length_nums _ _ _ _)
 have HLP : Hid ((hPl wide).length = 13) := hid (by simp [hPl])
 have HSL := hid (sum_hRow wide)
 have HAW : Hid (∀ k (h : k < (hRow wide).length), (i64s (hRow wide))[k]? = some (.int .i64 ((hRow wide)[k] : Int))) := hid (fun k h => by simp [i64s, h])
 generalize i64s (hRow wide) = RW at HWi HAW
 have HRL : Hid ((hRow wide).length = 13) := hid rfl
 have HMX := hid h.max
 have HLen := hid h.len
 have hcp := h.cap
 have hmx := h.max
 unfold maxLen at hmx
 generalize nums l big 16 (hRow wide) = vs at HNA HLN ⊢
 generalize hPl wide = ps at HPA HLP ⊢
 generalize hRow wide = ns at HWW HNA HPA HSL HAW HRL
 clear h hlen
 go_enter Try.func32, Try.ntmps32
 go_wp2_with fail
 generalize hW : World.alloc _ _ = W0
 obtain ⟨bf, bv, bp, hg0⟩ := blk3 hW
 clear hW
 refine (HWi.out _).mono ?_
 rintro e w1 ⟨rfl, hg1⟩
 have HBF := hid (bf.grow hg1)
 have HV := hid ((bv.grow hg1).row (f := laidTo .u64 vs 0) (fun i hi => by
  rw [show (#[.int .u64 0, .int .u64 0, .int .u64 0, .int .u64 0, .int .u64 0, .int .u64 0, .int .u64 0, .int .u64 0, .int .u64 0, .int .u64 0, .int .u64 0, .int .u64 0, .int .u64 0] : Array Value) = Array.replicate 13 (.int .u64 0) from rfl]
  have hi' : i < 13 := hi
  simp [laidTo, hi']))
 have HP := hid ((bp.grow hg1).row (f := laidTo .i64 ps 0) (fun i hi => by
  rw [show (#[.int .i64 0, .int .i64 0, .int .i64 0, .int .i64 0, .int .i64 0, .int .i64 0, .int .i64 0, .int .i64 0, .int .i64 0, .int .i64 0, .int .i64 0, .int .i64 0, .int .i64 0] : Array Value) = Array.replicate 13 (.int .i64 0) from rfl]
  have hi' : i < 13 := hi
  simp [laidTo, hi']))
 have HG1 : Hid (Grow w w1) := hg0.trans hg1
 have HS0 : Hid (w.heap.size ≤ w.heap.size) := Nat.le_refl _
 clear bf bv bp hg0 hg1
 generalize hS : w.heap.size = S at HBF HV HP HS0 ⊢
 have HS := hid hS
 clear hS
 go_wp2_with fail
 go_loopw [6, 11] (fun x i wr => ∃ (k at' : Nat), k ≤ 13 ∧ i = .int .i64 k ∧ x = .int .i64 at' ∧ at' = 16 + sumN (ns.take k) ∧ wr.rowIs (S + 1) 95 13 (laidTo .u64 vs k) ∧ wr.rowIs (S + 1 + 1) 96 13 (laidTo .i64 ps k) ∧
  Blk wr S 23 #[.bool wide, .bool big] ∧ Grow w wr) (fun _ i _ => 13 - (intOf i).toNat)
 case atStart => exact ⟨0, 16, by omega, rfl, rfl, rfl, HV.out, HP.out, HBF.out, HG1.out⟩
 case round =>
  obtain ⟨k, at', hk, rfl, rfl, ha, hv, hp, hbf, hg⟩ := hrel
  by_cases hlt : k < 13
  ·have hkn : k < ns.length := by rw [HRL.out]; exact hlt
   have HA := hid ha
   have HV1 := hid hv
   have HP1 := hid hp
   have HBF1 := hid hbf
   have HG := hid hg
   have HNk := hid (HNA.out k hkn)
   have HPk := hid (HPA.out k hlt)
   have HWk := hid (HWW.out k hkn)
   have HAk := hid (HAW.out k hkn)
   have HU := hid (sumN_succ ns k hkn)
   have hle : at' + ns[k] ≤ len := by
    have e1 := sumN_le ns (k + 1)
    rw [sumN_succ ns k hkn] at e1
    have e2 := HSL.out
    have e3 := HLEN.out
    have e4 := HLen.out
    omega
   rw [← ha] at HNk HPk
   have hw8 : ns[k] ≤ 8 := by have := wid_cases HWk.out; omega
   generalize ns[k] = m at HNk HWk HAk HU hle hw8
   have z1 : IntKind.u64.wrap (at' : Int) = (at' : Int) := by rw [IntKind.wrap_u64]; omega
   obtain ⟨q1, q2⟩ := hbf.c2
   have HRr : Hid (RB wr w.heap.size A len c l) := HR.out.belowAt hg (Nat.le_refl _)
   clear ha hv hp hbf hkn hg
   go_wp2_with (refine wpList_index rfl 96 3 (.tmp 10) (.tmp 11) rfl 13 _ Try.underlying96 Try.underlying3 rfl (by kernel_rfl) RW k (.int .i64 (m : Int)) rfl rfl hlt HAk.out ?_)
   refine (get_any A len c l _ at' m big _ HRr.out (by omega)).mono ?_
   rintro e w2 ⟨rfl, j, hw2⟩
   have hgb : gotB l at' m = true := by
    simp only [gotB, HWk.out, Bool.true_and, wthn]
    exact decide_eq_true (by have := HLen.out; omega)
   have hgv : gotV l at' m big = getB ((l.drop at').take m) big := by
    simp only [gotV, hgb, if_true, Int.toNat_natCast]
   rw [hgb, hgv]
   generalize getB ((l.drop at').take m) big = v at HNk ⊢
   have HV2 : Hid (w2.rowIs (S + 1) 95 13 (laidTo .u64 vs k)) := by rw [hw2]; exact HV1.out
   have HP2 : Hid (w2.rowIs (S + 1 + 1) 96 13 (laidTo .i64 ps k)) := by rw [hw2]; exact HP1.out
   have HBF2 : Hid (Blk w2 S 23 #[.bool wide, .bool big]) := by rw [hw2]; exact HBF1.out
   have HG2 : Hid (Grow w w2) := by rw [hw2]; exact HG.out.trans (Grow.of_drewN _ _)
   have c1 := HV2.out.cell hlt
   have f1 := HV2.out.frozen k
   have HV3 := hid (HV2.out.set k (.int .u64 (v : Int)))
   have HP3 := hid (HP2.out.setOther (a := ⟨S + 1, k, none⟩) (show S + 1 + 1 ≠ S + 1 by omega) (.int .u64 (v : Int)))
   have HP4 := hid (HP3.out.set k (.int .i64 (at' : Int)))
   have HV4 := hid (HV3.out.setOther (a := ⟨S + 1 + 1, k, none⟩) (show S + 1 ≠ S + 1 + 1 by omega) (.int .i64 (at' : Int)))
   have c2 := HP3.out.cell hlt
   have f2 := HP3.out.frozen k
   clear z1 q1 q2 hgb hgv hw2 HV1 HP1 HBF1 HG HRr
   have z1 : (0 : Int) ≤ (k : Int) := by omega
   have z2 : (k : Int) < 13 := by omega
   go_wp2_with fail
   go_roundw
   case rel => exact ⟨k + 1, at' + m, by omega, by go_num, by go_num, by rw [HU.out, HA.out]; omega, HV4.out.congr fun j _ => laidTo_succ HNk.out j, HP4.out.congr fun j _ => laidTo_succ HPk.out j,
    (HBF2.out.cellset (show S ≠ S + 1 by omega) _).cellset (show S ≠ S + 1 + 1 by omega) _, Grow.cellset (Grow.cellset HG2.out (by have := HS.out; omega) _ _) (by have := HS.out; omega) _ _⟩
   case measure => simp [intOf]; omega
  ·have e : k = 13 := by omega
   rw [e] at hv hp
   have HV1 := hid (blk_of_rowIs hv HLN.out)
   have HP1 := hid (blk_of_rowIs hp HLP.out)
   have HG := hid hg
   have HS1 : Hid ((u64s vs).size = 13) := hid (by simp [u64s, HLN.out])
   have HS2 : Hid ((i64s ps).size = 13) := hid (by simp [i64s, HLP.out])
   have HO1 := hid (one_u64s vs)
   have HO2 := hid (one_i64s ps)
   have HV2 : Hid (Blk wr (S + 1) 95 (u64s vs)) := HV1.out
   have HP2 : Hid (Blk wr (S + 1 + 1) 96 (i64s ps)) := HP1.out
   generalize hRv : u64s vs = Rv at HV2 HS1 HO1 ⊢
   generalize hRp : i64s ps = Rp at HP2 HS2 HO2 ⊢
   have HRv := hid hRv
   have HRp := hid hRp
   clear hRv hRp hv hp hbf hg HV1 HP1 ha
   go_wp2_with fail
   refine wp_region_leap leap_eq [(0, true), (1, true), (2, false), (3, false)] (by kernel_rfl) (by kernel_rfl) (by kernel_rfl) ?_
   have HG3 : Hid (Grow w wr.drew) := HG.out.trans (Grow.of_drew _)
   have HV3 : Hid (Blk wr.drew (S + 1) 95 Rv) := HV2.out
   have HP3 : Hid (Blk wr.drew (S + 1 + 1) 96 Rp) := HP2.out
   generalize wr.drew = w3 at HG3 HV3 HP3 ⊢
   clear HV2 HP2 HG
   refine chain_take rfl (by rfl) (.agg Rv) (fun W hW => ?_) ?_
   ·subst hW; exact HV3.out.exec 95 (.tmp 4) rfl rfl _ Try.underlying95 rfl (by rw [HS1.out]; kernel_rfl)
   refine chain_take rfl (by rfl) (.agg Rp) (fun W hW => ?_) ?_
   ·subst hW; exact HP3.out.exec 96 (.tmp 5) rfl rfl _ Try.underlying96 rfl (by rw [HS2.out]; kernel_rfl)
   simp only [Act.put, List.setIfInBounds_toArray, List.set_cons_zero, List.set_cons_succ]
   refine chain_only rfl (by rfl) (fun K hK => ?_)
   refine wp_store_row 95 (.tmp 4) (.tmp 34) rfl (S + 1) Rv rfl rfl _ _ HV3.out (by rw [HS1.out]; kernel_rfl) rfl HO1.out ?_
   refine hK _ _ HV3.out.same ?_
   clear hK K
   rw [HV3.out.same]
   refine chain_only rfl (by rfl) (fun K hK => ?_)
   refine wp_store_row 96 (.tmp 5) (.tmp 35) rfl (S + 1 + 1) Rp rfl rfl _ _ HP3.out (by rw [HS2.out]; kernel_rfl) rfl HO2.out ?_
   refine hK _ _ HP3.out.same ?_
   clear hK K
   rw [HP3.out.same]
   refine chain_done ?_
   go_wp2
   refine bodyPost_ret (results_cell2 rfl _ _ (S + 1) (S + 1 + 1) (.agg Rv) (.agg Rp) rfl rfl (HV3.out.var _ _ Try.underlying95 rfl (by rw [HS1.out]; kernel_rfl)) (HP3.out.var _ _ Try.underlying96 rfl (by rw [HS2.out]; kernel_rfl))) rfl ?_
   exact ⟨by rw [HRv.out, HRp.out], HG3.out⟩
end Go.Proofs.Ytaianmonokeimaa
