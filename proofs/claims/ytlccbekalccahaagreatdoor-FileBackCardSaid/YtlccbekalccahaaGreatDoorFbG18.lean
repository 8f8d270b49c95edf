/-
  Several texts in one: The contracts of head; The contract of wire; The contract of wire; The contract of wire; Contracts of the document's own Wide (layer 1).
-/
import Derived.Test.YtlccbekalccahaaGreatDoorFbG17
import Derived.Test.YtlccbekalccahaaGreatDoorFbG9
import Derived.Test.YtlccbekalccahaaGreatDoorFbG3
import Derived.Deep.OwnRows

namespace Go.Proofs.YtlccbekalccahaaGreatDoor
open Go.RowKit
set_option maxRecDepth 100000

theorem numbers_any (h : Hd) (ok : h.Ok) (w : World) : Calls Tryz.prog 62 #[h.V] w fun e w' => e = .returned (.agg (u64s h.N)) ∧ Grow w w' := by
  obtain ⟨wide, big, o, a, ty, ma, en, ph, sh, fl, pn, sn, st⟩ := h
  obtain ⟨k1, k2, k3, k4, k5, k6, k7, k8, k9⟩ := ok
  unfold Hd.V Hd.C
  simp only [] at *
  generalize (o.toNat : Int) = ov
  generalize (a.toNat : Int) = av
  go_enter Tryz.func62, Tryz.ntmps62
  go_wp2_with fail
  generalize hW : World.alloc _ _ = W0
  obtain ⟨b1, b2, b3, hg0⟩ := blk3 hW
  clear hW
  refine wp_region_leap (leap_bar (w.heap.size + 1)) [(0, true), (1, true), (2, true), (3, true), (4, true), (5, true), (6, true), (7, true), (8, true), (9, true), (10, true), (11, true), (12, true), (13, true), (14, true), (15, true), (18, true), (19, true), (20, true), (21, true), (24, true), (25, true), (26, true), (27, true), (28, true), (29, true), (30, true), (33, true), (34, true), (35, true), (36, true), (37, true), (38, true), (16, false), (17, true), (22, false), (23, false), (31, false), (32, false), (39, true), (40, false)] (by kernel_rfl) (by kernel_rfl) (by kernel_rfl) ?_
  have HG : Hid (Grow w W0.drew) := hg0.trans (Grow.of_drew _)
  have b1' := b1.drew
  have b2' := b2.drew
  have b3' := b3.drew
  generalize W0.drew = W1 at b1' b2' b3' HG ⊢
  have HX : Hid (∀ W, Bar (w.heap.size + 1) W1 W → _ ∧ _) := fun W hG => ⟨(b1'.bar hG (by omega)).c13, (b3'.bar hG (by omega)).c2⟩
  have HB := Lib.hid b2'
  clear b1 b2 b3 b1' b2' b3' hg0
  have z1 : IntKind.u64.wrap (ty : Int) = (ty : Int) := by rw [IntKind.wrap_u64]; omega
  have z2 : IntKind.u64.wrap (ma : Int) = (ma : Int) := by rw [IntKind.wrap_u64]; omega
  have z3 : IntKind.u64.wrap (fl : Int) = (fl : Int) := by rw [IntKind.wrap_u64]; omega
  have z4 : IntKind.u64.wrap (pn : Int) = (pn : Int) := by rw [IntKind.wrap_u64]; omega
  have z5 : IntKind.u64.wrap (sn : Int) = (sn : Int) := by rw [IntKind.wrap_u64]; omega
  have z6 : IntKind.u64.wrap (st : Int) = (st : Int) := by rw [IntKind.wrap_u64]; omega
  repeat (refine chain_take rfl (by rfl) ?_ (fun W hG => ?_) ?_; rotate_left; (obtain ⟨⟨x0, x1, x2, x3, x4, x5, x6, x7, x8, x9, x10, x11, x12⟩, y0, y1⟩ := HX.out W hG; go_simp; rfl); simp only [Act.put, List.setIfInBounds_toArray, List.set_cons_zero, List.set_cons_succ])
  clear HX z1 z2 z3 z4 z5 z6
  refine chain_only rfl (by rfl) (fun K hK => ?_)
  go_simp
  refine (hSize_any wide big _).mono ?_
  rintro e W2 ⟨rfl, hg⟩
  refine hK _ _ (Bar.of_grow hg) ?_
  clear hK K
  replace HG : Hid (Grow w W2) := HG.out.trans hg
  replace HB := Lib.hid (HB.out.grow hg)
  clear hg
  have s1 : hSize wide < 1000 := by cases wide <;> decide
  have z1 : IntKind.u64.wrap (hSize wide : Int) = (hSize wide : Int) := by rw [IntKind.wrap_u64]; omega
  repeat (refine chain_take rfl (by rfl) ?_ (fun W hG => ?_) ?_; rotate_left; (go_simp; rfl); simp only [Act.put, List.setIfInBounds_toArray, List.set_cons_zero, List.set_cons_succ])
  clear z1 s1
  refine chain_only rfl (by rfl) (fun K hK => ?_)
  go_simp
  refine (byClass_any wide big 32 56 _).mono ?_
  rintro e W3 ⟨rfl, hg⟩
  refine hK _ _ (Bar.of_grow hg) ?_
  clear hK K
  replace HG : Hid (Grow w W3) := HG.out.trans hg
  replace HB := Lib.hid (HB.out.grow hg)
  clear hg
  refine chain_only rfl (by rfl) (fun K hK => ?_)
  go_simp
  refine (sizeIf_any _ (byWide wide 32 56) _ (by cases wide <;> decide)).mono ?_
  rintro e W4 ⟨rfl, rfl⟩
  refine hK _ _ ((leap_bar _).refl _) ?_
  clear hK K
  refine chain_only rfl (by rfl) (fun K hK => ?_)
  go_simp
  refine (byClass_any wide big 40 64 _).mono ?_
  rintro e W4 ⟨rfl, hg⟩
  refine hK _ _ (Bar.of_grow hg) ?_
  clear hK K
  replace HG : Hid (Grow w W4) := HG.out.trans hg
  replace HB := Lib.hid (HB.out.grow hg)
  clear hg
  refine chain_only rfl (by rfl) (fun K hK => ?_)
  go_simp
  refine (sizeIf_any _ (byWide wide 40 64) _ (by cases wide <;> decide)).mono ?_
  rintro e W5 ⟨rfl, rfl⟩
  refine hK _ _ ((leap_bar _).refl _) ?_
  clear hK K
  repeat (refine chain_take rfl (by rfl) ?_ (fun W hG => ?_) ?_; rotate_left; (go_simp; rfl); simp only [Act.put, List.setIfInBounds_toArray, List.set_cons_zero, List.set_cons_succ])
  refine chain_only rfl (by rfl) (fun K hK => ?_)
  refine wp_store_row 133 (.tmp 2) (.tmp 46) rfl (w.heap.size + 1) (u64s (Hd.N ⟨wide, big, o, a, ty, ma, en, ph, sh, fl, pn, sn, st⟩)) rfl rfl _ _ HB.out (by kernel_rfl) rfl (one_u64s _) ?_
  refine hK _ _ (Bar.set _ _ _) ?_
  clear hK K
  refine chain_done ?_
  have HB5 := Lib.hid (HB.out.set (u64s (Hd.N ⟨wide, big, o, a, ty, ma, en, ph, sh, fl, pn, sn, st⟩)))
  have HG5 : Hid (Grow w _) := Grow.set HG.out (Nat.le_succ _) (u64s (Hd.N ⟨wide, big, o, a, ty, ma, en, ph, sh, fl, pn, sn, st⟩))
  generalize W4.setRow (w.heap.size + 1) (u64s (Hd.N ⟨wide, big, o, a, ty, ma, en, ph, sh, fl, pn, sn, st⟩)) = W6 at HB5 HG5 ⊢
  generalize hR : u64s (Hd.N ⟨wide, big, o, a, ty, ma, en, ph, sh, fl, pn, sn, st⟩) = R at HB5 ⊢
  have HR := Lib.hid hR
  clear HB HG hR
  go_wp2
  refine bodyPost_ret (results_cell_row (cs := R) rfl _ _ (w.heap.size + 1) _ (0, 0) _ rfl HB5.out Tryz.underlying133 rfl (by kernel_rfl)) rfl ?_
  exact ⟨by rw [HR.out], HG5.out⟩

theorem header_any (wide big : Bool) (o a : UInt8) (x0 x1 x2 x3 x4 x5 x6 x7 x8 x9 x10 x11 x12 : Nat) (w : World)
    (k0 : x0 < 65536) (k1 : x1 < 65536) (k6 : x6 < 4294967296) (k9 : x9 < 65536) (k11 : x11 < 65536) (k12 : x12 < 65536) :
    Calls Tryz.prog 61 #[idV wide big o a, .agg (u64s [x0, x1, x2, x3, x4, x5, x6, x7, x8, x9, x10, x11, x12])] w fun e w' =>
      e = .returned (Hd.V ⟨wide, big, o, a, x0, x1, x3, x4, x5, x6, x9, x11, x12⟩) ∧ Grow w w' := by
  have z0 : IntKind.u16.wrap (x0 : Int) = (x0 : Int) := by rw [IntKind.wrap_u16]; omega
  have z1 : IntKind.u16.wrap (x1 : Int) = (x1 : Int) := by rw [IntKind.wrap_u16]; omega
  have z6 : IntKind.u32.wrap (x6 : Int) = (x6 : Int) := by rw [IntKind.wrap_u32]; omega
  have z9 : IntKind.u16.wrap (x9 : Int) = (x9 : Int) := by rw [IntKind.wrap_u16]; omega
  have z11 : IntKind.u16.wrap (x11 : Int) = (x11 : Int) := by rw [IntKind.wrap_u16]; omega
  have z12 : IntKind.u16.wrap (x12 : Int) = (x12 : Int) := by rw [IntKind.wrap_u16]; omega
  clear k0 k1 k6 k9 k11 k12
  obtain ⟨R, hR⟩ : ∃ R, R = Hd.C ⟨wide, big, o, a, x0, x1, x3, x4, x5, x6, x9, x11, x12⟩ := ⟨_, rfl⟩
  have HR := Lib.hid hR
  have h1 := Hd.one ⟨wide, big, o, a, x0, x1, x3, x4, x5, x6, x9, x11, x12⟩
  rw [← hR] at h1
  have H1 := Lib.hid h1
  unfold Hd.C at hR
  simp only [] at hR
  unfold Hd.V
  rw [← HR.out]
  unfold idV u64s
  simp only [List.map_cons, List.map_nil]
  generalize (o.toNat : Int) = ov at hR ⊢
  generalize (a.toNat : Int) = av at hR ⊢
  have HR2 := Lib.hid hR
  clear h1 hR HR
  go_enter Tryz.func61, Tryz.ntmps61
  go_wp2_with (refine wpList_store_row rfl 69 (.tmp 4) (.tmp 30) rfl (w.heap.size + 1 + 1) R rfl (by rw [HR2.out]; rfl) _ _ (blk3 rfl).2.2.1 (by rw [HR2.out]; kernel_rfl) (by rw [HR2.out]; rfl) H1.out ?_)
  refine bodyPost_ret (results_cell_row (cs := R) rfl _ _ (w.heap.size + 1 + 1) _ (0, 0) _ rfl ((blk3 rfl).2.2.1.set R) Tryz.underlying69 rfl (by rw [HR2.out]; kernel_rfl)) rfl ?_
  exact ⟨rfl, Grow.set (blk3 rfl).2.2.2 (by omega) R⟩

/-- Whether a number may be any. -/
def mayAny (i : Nat) (pn sh : Nat) : Bool := (i == 8) && (pn == 0) || (i == 10) && (sh == 0)

theorem mayBeAny_any (h : Hd) (i : Nat) (w : World) : Calls Tryz.prog 63 #[.int .i64 i, h.V] w fun e w' => e = .returned (.bool (mayAny i h.pn h.sh)) ∧ Grow w w' := by
  obtain ⟨wide, big, o, a, ty, ma, en, ph, sh, fl, pn, sn, st⟩ := h
  unfold Hd.V Hd.C
  simp only []
  generalize (o.toNat : Int) = ov
  generalize (a.toNat : Int) = av
  have E : Hid (mayAny i pn sh = (((i : Int) == 8) && ((pn : Int) == 0) || ((i : Int) == 10) && ((sh : Int) == 0))) := by
    have h1 : ∀ x y : Nat, (x == y) = ((x : Int) == (y : Int)) := fun x y => by rw [Bool.eq_iff_iff, beq_iff_eq, beq_iff_eq]; omega
    unfold mayAny
    rw [h1, h1, h1, h1]
    exact Lib.hid rfl
  generalize mayAny i pn sh = r at E ⊢
  by_cases h8 : i = 8
  · subst h8
    by_cases hp : pn = 0
    · subst hp
      go_enter Tryz.func63, Tryz.ntmps63
      go_wp2
      go_ret
      exact ⟨by rw [E.out]; rfl, Grow.of_alloc _ _⟩
    · have q : ((pn : Int) == 0) = false := by simp; omega
      rw [q] at E
      clear hp
      go_enter Tryz.func63, Tryz.ntmps63
      go_wp2
      go_ret
      exact ⟨by rw [E.out]; rfl, Grow.of_alloc _ _⟩
  · have q8 : ((i : Int) == 8) = false := by simp; omega
    by_cases h10 : i = 10
    · subst h10
      go_enter Tryz.func63, Tryz.ntmps63
      go_wp2
      go_ret
      exact ⟨by rw [E.out]; rfl, Grow.of_alloc _ _⟩
    · have q10 : ((i : Int) == 10) = false := by simp; omega
      rw [q8, q10] at E
      clear h8 h10
      go_enter Tryz.func63, Tryz.ntmps63
      go_wp2
      go_ret
      exact ⟨by rw [E.out]; rfl, Grow.of_alloc _ _⟩
end Go.Proofs.YtlccbekalccahaaGreatDoor

namespace Go.Proofs.YtlccbekalccahaaGreatDoor
open Go.RowKit

theorem shift_any (i n : Nat) (big : Bool) (w : World) (hi : i < n) (hn : n ≤ 8) : Calls Tryz.prog 135 #[.int .i64 i, .int .i64 n, .bool big] w fun e w' => e = .returned (.int .u64 (8 * (rank i n big : Nat) : Int)) ∧ w = w' := by
  cases big
  · go_enter Tryz.func135, Tryz.ntmps135
    go_wp2
    go_ret
    exact ⟨ret_int (by simp [rank]), rfl⟩
  · go_enter Tryz.func135, Tryz.ntmps135
    go_wp2
    go_ret
    exact ⟨ret_int (by simp [rank]; omega), rfl⟩
end Go.Proofs.YtlccbekalccahaaGreatDoor

namespace Go.Proofs.YtlccbekalccahaaGreatDoor
open Go.RowKit

theorem quietL {P : Program} {f : FuncId} {args : Array Value} {w : World} {v : Value}
    (h : Calls P f args w fun e w' => e = .returned v ∧ w = w') : Calls P f args w fun e w' => e = .returned v ∧ w' = w :=
  h.mono fun _ _ hh => ⟨hh.1, hh.2.symm⟩

theorem shl_lt (u r : Nat) (hu : u ≤ 255) (hr : r < 8) : u * 2 ^ (8 * r) < 18446744073709551616 := by
  have h1 : u * 2 ^ (8 * r) ≤ 255 * 2 ^ (8 * r) := Nat.mul_le_mul_right _ hu
  have h2 : 2 ^ (8 * r) ≤ 2 ^ 56 := Nat.pow_le_pow_right (by omega) (by omega)
  omega
theorem shl_fact (u r : Nat) (hu : u ≤ 255) (hr : r < 8) : Op.shift .shl .u64 (u : Int) .u64 (8 * (r : Nat) : Int) = pure (.int .u64 ((u * 2 ^ (8 * r) : Nat) : Int)) := by
  rw [shift_shl_any _ _ _ _ (by omega), show min ((8 * (r : Nat) : Int)).toNat IntKind.u64.bits = 8 * r by simp [IntKind.bits]; omega, IntKind.wrap_u64]
  congr 2
  have h := shl_lt u r hu hr
  have e : (u : Int) * 2 ^ (8 * r) = ((u * 2 ^ (8 * r) : Nat) : Int) := by simp
  rw [e]
  omega
set_option maxHeartbeats 400000 in
theorem get_yes (b off c : Nat) (l : List UInt8) (p n : Nat) (big : Bool) (w : World) (hw : wid n = true) (hp : p + n ≤ l.length) (hl : l.length ≤ c) (hc : c ≤ maxLen)
    (hcell : ∀ j (h : j < l.length), w.cell? ⟨b, off + j, none⟩ = some (.int .u8 (l[j].toNat : Int))) :
    Calls Tryz.prog 111 #[.slice (some ⟨b, off, none⟩) l.length c, .int .u64 p, .int .i64 n, .bool big] w fun e w' =>
      e = .returned (.tuple #[.int .u64 (getB ((l.drop p).take n) big : Nat), .bool true]) ∧ ∃ m, w' = w.drewN m := by
  unfold maxLen at hc
  have hn8 : n ≤ 8 := by have := wid_cases hw; omega
  obtain ⟨q, hq⟩ : ∃ q, q = (l.drop p).take n := ⟨_, rfl⟩
  have hql : q.length = n := by rw [hq]; simp; omega
  have hqc : ∀ j (h : j < q.length), w.cell? ⟨b, off + (p + j), none⟩ = some (.int .u8 (q[j].toNat : Int)) := by
    intro j h
    rw [hcell (p + j) (by omega)]
    simp [hq]
  rw [← hq]
  have H := Lib.hid hw
  have HC := Lib.hid hqc
  have HL := Lib.hid hql
  have HT := Lib.hid (show wthn p n l.length = true from decide_eq_true (by omega))
  clear hw hcell hqc hql hq
  go_enter Tryz.func111, Tryz.ntmps111
  go_wp2_with (first
    | (go_at_call 134; refine (isWidth_any _ _).mono ?_; rintro e w' ⟨rfl, rfl⟩; rw [H.out])
    | (go_at_call 113; refine (within_any _ _ _ _ (by omega) (by omega) (by omega)).mono ?_; rintro e w' ⟨rfl, rfl⟩; rw [HT.out]))
  go_loopw [10, 26] (fun v i wr => ∃ k : Nat, k ≤ n ∧ i = .int .i64 k ∧ v = .int .u64 (part q big k : Nat) ∧ ∃ m, wr = w.drewN m) (fun _ i _ => n - (intOf i).toNat)
  case atStart => exact ⟨0, Nat.zero_le _, rfl, by rw [part_zero]; rfl, 0, rfl⟩
  case round =>
    obtain ⟨k, hk, rfl, rfl, hm⟩ := hrel
    have HM := Lib.hid hm
    have hcw : ∀ a, wr.cell? a = w.cell? a := by obtain ⟨m, rfl⟩ := hm; intro a; rfl
    clear hm
    by_cases hlt : k < n
    · have hkq : k < q.length := by rw [HL.out]; exact hlt
      obtain ⟨u, hu⟩ : ∃ u : UInt8, u = q[k] := ⟨_, rfl⟩
      have hcl : wr.cell? ⟨b, off + (p + k), none⟩ = some (.int .u8 u.toNat) := by rw [hcw, hu]; exact HC.out k hkq
      have HS := Lib.hid (part_succ q big k hkq)
      rw [← hu, HL.out] at HS
      have hu8 : u.toNat ≤ 255 := by have := u.toNat_lt; omega
      clear hu hkq hcw
      go_wp2_with fail
      have z1 : IntKind.u64.wrap (k : Int) = (k : Int) := by rw [IntKind.wrap_u64]; omega
      have z2 : IntKind.u64.wrap ((p : Int) + (k : Int)) = (p : Int) + (k : Int) := by rw [IntKind.wrap_u64]; omega
      have z6 : IntKind.u64.wrap (u.toNat : Int) = (u.toNat : Int) := by rw [IntKind.wrap_u64]; omega
      obtain ⟨x, hx⟩ : ∃ x, x = u.toNat * 2 ^ (8 * rank k n big) := ⟨_, rfl⟩
      have z7 : Op.shift .shl .u64 (u.toNat : Int) .u64 (8 * (rank k n big : Nat) : Int) = pure (.int .u64 (x : Int)) := by rw [hx]; exact shl_fact u.toNat (rank k n big) (by omega) (by have := rank_lt k n big hlt; omega)
      rw [← hx] at HS
      have h1 : part q big k < 18446744073709551616 := Nat.lt_of_lt_of_le (part_lt q big k (by rw [HL.out]; exact hk)) (by rw [HL.out]; exact (Nat.pow_le_pow_right (by omega) hn8 : 256 ^ n ≤ 256 ^ 8))
      have h2 : x < 18446744073709551616 := by rw [hx]; exact shl_lt u.toNat (rank k n big) (by omega) (by have := rank_lt k n big hlt; omega)
      clear hx
      have z3 : (0 : Int) ≤ (p : Int) + (k : Int) := by omega
      have z4 : ((p : Int) + (k : Int)).toNat = p + k := by omega
      have z5 : (p : Int) + (k : Int) < (l.length : Int) := by omega
      go_quiet ((go_at_call 135; exact Calls.quiet_of_same (quietL (shift_any k n big _ hlt hn8))))
      clear z1 z2 z3 z4 z5 z6 z7
      rw [u64_or_nat _ _ h1 h2, ← HS.out]
      clear h1 h2
      go_wp2
      go_roundw
      case rel => exact ⟨k + 1, by omega, by go_num, rfl, by obtain ⟨m, hm⟩ := HM.out; exact ⟨m + nq, by rw [hm, World.drewN_drewN]⟩⟩
      case measure => simp [intOf]; omega
    · go_wp2
      go_ret2
      have e : k = q.length := by rw [HL.out]; omega
      exact ⟨by rw [e, part_all]; rfl, HM.out⟩

def gotB (l : List UInt8) (p n : Int) : Bool := wid n && wthn p n l.length
def gotV (l : List UInt8) (p n : Int) (big : Bool) : Nat := if gotB l p n then getB ((l.drop p.toNat).take n.toNat) big else 0

theorem get_no (A : Option Addr) (len c : Nat) (p n : Int) (big : Bool) (w : World) (hl : len ≤ c) (hc : c ≤ maxLen) (hp : 0 ≤ p) (h : wid n = false ∨ (wid n = true ∧ wthn p n len = false)) :
    Calls Tryz.prog 111 #[.slice A len c, .int .u64 p, .int .i64 n, .bool big] w fun e w' =>
      e = .returned (.tuple #[.int .u64 0, .bool false]) ∧ w = w' := by
  unfold maxLen at hc
  rcases h with h | ⟨h, ht⟩
  · have H := Lib.hid h
    clear h
    go_enter Tryz.func111, Tryz.ntmps111
    go_wp2_with (go_at_call 134; refine (isWidth_any _ _).mono ?_; rintro e w' ⟨rfl, rfl⟩; rw [H.out])
    go_ret2
    exact ⟨rfl, rfl⟩
  · obtain ⟨N, rfl⟩ : ∃ N : Nat, n = N := ⟨n.toNat, by have := wid_cases h; omega⟩
    have hn8 : N ≤ 8 := by have := wid_cases h; omega
    have H := Lib.hid h
    have HT := Lib.hid ht
    clear h ht
    go_enter Tryz.func111, Tryz.ntmps111
    go_wp2_with (first
      | (go_at_call 134; refine (isWidth_any _ _).mono ?_; rintro e w' ⟨rfl, rfl⟩; rw [H.out])
      | (go_at_call 113; refine (within_any _ _ _ _ (by omega) (by omega) (by omega)).mono ?_; rintro e w' ⟨rfl, rfl⟩; rw [HT.out]))
    go_ret2
    exact ⟨rfl, rfl⟩

theorem get_any (A : Option Addr) (len c : Nat) (l : List UInt8) (B : Nat) (p n : Int) (big : Bool) (w : World) (h : RB w B A len c l) (hp : 0 ≤ p) :
    Calls Tryz.prog 111 #[.slice A len c, .int .u64 p, .int .i64 n, .bool big] w fun e w' =>
      e = .returned (.tuple #[.int .u64 (gotV l p n big : Nat), .bool (gotB l p n)]) ∧ ∃ m, w' = w.drewN m := by
  have hl := h.len
  cases hg : gotB l p n
  · have e : gotV l p n big = 0 := by simp [gotV, hg]
    rw [e]
    refine (get_no A len c p n big w h.cap h.max hp ?_).mono fun e w' ⟨h1, h2⟩ => ⟨h1, 0, h2.symm⟩
    rw [hl]
    cases hw : wid n
    · exact .inl rfl
    · exact .inr ⟨rfl, by simpa [gotB, hw] using hg⟩
  · have hw : wid n = true ∧ wthn p n l.length = true := by simpa [gotB] using hg
    obtain ⟨N, rfl⟩ : ∃ N : Nat, n = N := ⟨n.toNat, by have := wid_cases hw.1; omega⟩
    obtain ⟨K, rfl⟩ : ∃ N : Nat, p = N := ⟨p.toNat, by omega⟩
    have hN := wid_cases hw.1
    have hpn := of_decide_eq_true hw.2
    obtain ⟨b, off, rfl, _, hcell⟩ := h.pos (by omega)
    have e : gotV l K N big = getB ((l.drop K).take N) big := by simp [gotV, hg]
    rw [e, hl]
    exact get_yes b off c l K N big w hw.1 (by omega) (by have := h.cap; omega) h.max hcell
end Go.Proofs.YtlccbekalccahaaGreatDoor

namespace Go.Proofs.YtlccbekalccahaaGreatDoor
open Go.RowKit Go.Deep

/-- The call returned a slice of its own that holds the bytes l, and nothing that was there has changed. -/
def Made (l : List UInt8) (w : World) (e : Ending) (w' : World) : Prop :=
  ∃ A c, e = .returned (.slice A l.length c) ∧ OB w' w.heap.size 5 A l.length c l ∧ Below w.heap.size w w'

def putL (v n : Int) (big : Bool) : List UInt8 := if wid n then putB v.toNat n.toNat big else []

theorem put_no (v n : Int) (big : Bool) (w : World) (h : wid n = false) :
    Calls Tryz.prog 95 #[.int .u64 v, .int .i64 n, .bool big] w fun e w' => e = .returned (.slice none 0 0) ∧ w = w' := by
  have H := Lib.hid h
  clear h
  go_enter Tryz.func95, Tryz.ntmps95
  go_wp2_with (go_at_call 134; refine (isWidth_any _ _).mono ?_; rintro e w' ⟨rfl, rfl⟩; rw [H.out])
  go_ret
  exact ⟨rfl, rfl⟩

/-- The first k bytes are written. -/
def wrote (l : List UInt8) (k j : Nat) : Value := .int .u8 (if j < k then (l.getD j 0).toNat else 0 : Nat)

theorem shr_fact (v r : Nat) (hr : r < 8) : Op.shift .shr .u64 (v : Int) .u64 (8 * (r : Nat) : Int) = pure (.int .u64 ((v / 256 ^ r : Nat) : Int)) := by
  rw [shift_shr_any _ _ _ _ (by omega), show min ((8 * (r : Nat) : Int)).toNat IntKind.u64.bits = 8 * r by simp [IntKind.bits]; omega]
  congr 2
  rw [pow256]
  simp

set_option maxHeartbeats 400000 in
theorem put_yes (v n : Nat) (big : Bool) (w : World) (h : wid n = true) :
    Calls Tryz.prog 95 #[.int .u64 v, .int .i64 n, .bool big] w fun e w' => e = .returned (.slice (some ⟨w.heap.size, 0, none⟩) n n) ∧
      w'.rowIs w.heap.size 5 n (wrote (putB v n big) n) ∧ Below w.heap.size w w' := by
  have hn8 : n ≤ 8 := by have := wid_cases h; omega
  have H := Lib.hid h
  have hmk : ∀ W : World, (Instr.makeSlice 35 (.int .i64 (n : Int)) (.int .i64 (n : Int))).run Tryz.prog W = .ok (.slice (some ⟨W.heap.size, 0, none⟩) n n) (W.alloc (.cells (madeCells #[.int .u8 0] n) 5)) :=
    fun W => run_make_row' 35 5 (.int .u8 0) 1 Tryz.underlying35 (by kernel_rfl) rfl _ _ n (by omega) (by omega) W
  have h0 : (w.alloc (.cells (madeCells #[.int .u8 0] n) 5)).rowIs w.heap.size 5 n (wrote (putB v n big) 0) := (World.rowIs_made w (.int .u8 0) n 5).congr fun i _ => by simp [wrote]
  have H0 := Lib.hid h0
  clear h h0
  go_enter Tryz.func95, Tryz.ntmps95
  go_wp2_with (go_at_call 134; refine (isWidth_any _ _).mono ?_; rintro e w' ⟨rfl, rfl⟩; rw [H.out])
  obtain ⟨g, hg⟩ : ∃ g, g = w.heap.size := ⟨_, rfl⟩
  rw [← hg] at H0
  have HG := Lib.hid hg
  rw [← hg]
  clear hmk
  go_loopw [15] (fun i wr => ∃ k : Nat, k ≤ n ∧ i = .int .i64 k ∧ wr.rowIs g 5 n (wrote (putB v n big) k) ∧ Below g w wr) (fun i _ => n - (intOf i).toNat)
  case atStart => exact ⟨0, Nat.zero_le _, rfl, H0.out, (Below.refl _ _).alloc (by omega) _⟩
  case round =>
    obtain ⟨k, hk, rfl, hrow, hbel⟩ := hrel
    clear hg
    by_cases hlt : k < n
    · have hcl := hrow.cell hlt
      have hfz := hrow.frozen k
      have HR := Lib.hid hrow
      have HB := Lib.hid hbel
      have z7 := shr_fact v (rank k n big) (by have := rank_lt k n big hlt; omega)
      obtain ⟨y, hy⟩ : ∃ y, y = v / 256 ^ rank k n big := ⟨_, rfl⟩
      have HY := Lib.hid hy
      rw [← hy] at z7
      clear hrow hbel hy
      go_wp2_with (go_at_call 135; refine (shift_any k n big _ hlt hn8).mono ?_; rintro e w' ⟨rfl, rfl⟩)
      go_roundw
      case rel =>
        refine ⟨k + 1, by omega, by go_num, (HR.out.set k _).congr fun j hj => ?_, HB.out.setCell (Nat.le_refl _) _⟩
        have hyv : (putB v n big).getD j 0 = UInt8.ofNat (v / 256 ^ rank j n big) := by rw [List.getD_eq_getElem?_getD, putB_at v n j big hj]; rfl
        by_cases e : j = k
        · subst e
          simp only [if_true, wrote, Nat.lt_succ_self, hyv, HY.out, toNat_ofNat8]
          simp
        · rw [if_neg e]
          by_cases e2 : j < k
          · simp only [wrote, if_pos e2, if_pos (show j < k + 1 by omega)]
          · simp only [wrote, if_neg e2, if_neg (show ¬ j < k + 1 by omega)]
      case measure => simp [intOf]; omega
    · have HR : Hid (wr.rowIs g 5 n (wrote (putB v n big) n)) := by
        have e : k = n := by omega
        rw [e] at hrow
        exact hrow
      have HB := Lib.hid hbel
      clear hrow hbel
      go_wp2
      go_ret
      rw [← HG.out]
      exact ⟨rfl, HR.out, HB.out⟩

theorem put_any (v n : Int) (big : Bool) (w : World) (h0 : 0 ≤ v) :
    Calls Tryz.prog 95 #[.int .u64 v, .int .i64 n, .bool big] w (Made (putL v n big) w) := by
  cases h : wid n
  · have e : putL v n big = [] := by simp [putL, h]
    rw [e]
    exact (put_no v n big w h).mono fun e w' ⟨h1, h2⟩ => ⟨none, 0, h1, OB.nil, h2 ▸ Below.refl _ _⟩
  · obtain ⟨N, rfl⟩ : ∃ N : Nat, n = N := ⟨n.toNat, by have := wid_cases h; omega⟩
    obtain ⟨V, rfl⟩ : ∃ N : Nat, v = N := ⟨v.toNat, by omega⟩
    have hN8 : N ≤ 8 := by have := wid_cases h; omega
    have e : putL V N big = putB V N big := by simp [putL, h]
    rw [e]
    refine (put_yes V N big w h).mono fun e w' ⟨h1, h2, h3⟩ => ?_
    have hlen := length_putB V N big
    refine ⟨some ⟨w.heap.size, 0, none⟩, N, by rw [hlen]; exact h1, ⟨by simp, .inr ?_⟩, h3⟩
    obtain ⟨c, hb, hn, hc⟩ := h2
    rw [hlen]
    refine ⟨w.heap.size, N, c, rfl, Nat.le_refl _, hb, Nat.le_refl _, by unfold maxLen; omega, by omega, ?_⟩
    apply List.ext_getElem?
    intro i
    by_cases hi : i < N
    · rw [List.getElem?_take_of_lt (by omega), Array.getElem?_toList, hc i hi]
      have := putB_at V N i big hi
      simp [wrote, hi, this, byt]
    · rw [List.getElem?_eq_none (by simp; omega), List.getElem?_eq_none (by simp; omega)]

/-- The same, where the width is known: as many bytes as asked for. -/
theorem put_wide (v : Int) (n : Nat) (big : Bool) (w : World) (h : wid n = true) (h0 : 0 ≤ v) :
    Calls Tryz.prog 95 #[.int .u64 v, .int .i64 n, .bool big] w fun e w' => ∃ A c, e = .returned (.slice A n c) ∧ OB w' w.heap.size 5 A n c (putB v.toNat n big) ∧ Below w.heap.size w w' := by
  refine (put_any v n big w h0).mono fun e w' ⟨A, c, h1, h2, h3⟩ => ?_
  have e1 : putL v n big = putB v.toNat n big := by simp [putL, h]
  rw [e1, length_putB] at h1 h2
  exact ⟨A, c, h1, h2, h3⟩
end Go.Proofs.YtlccbekalccahaaGreatDoor

namespace Go.Proofs.YtlccbekalccahaaGreatDoor
open Go.RowKit

theorem wide_any (n : Int) (w : World) : Calls Tryz.prog 139 #[.int .i64 n] w fun e w' => e = .returned (.bool (wid n)) ∧ w = w' := by
  by_cases h1 : n = 1
  · subst h1
    go_enter Tryz.func139, Tryz.ntmps139
    go_wp2
    go_ret
    exact ⟨rfl, rfl⟩
  by_cases h2 : n = 2
  · subst h2
    go_enter Tryz.func139, Tryz.ntmps139
    go_wp2
    go_ret
    exact ⟨rfl, rfl⟩
  by_cases h4 : n = 4
  · subst h4
    go_enter Tryz.func139, Tryz.ntmps139
    go_wp2
    go_ret
    exact ⟨rfl, rfl⟩
  by_cases h8 : n = 8
  · subst h8
    go_enter Tryz.func139, Tryz.ntmps139
    go_wp2
    go_ret
    exact ⟨rfl, rfl⟩
  have e : wid n = false := by unfold wid; simp [h1, h2, h4, h8]
  have b1 : (n == 1) = false := by simp [h1]
  have b2 : (n == 2) = false := by simp [h2]
  have b4 : (n == 4) = false := by simp [h4]
  have b8 : (n == 8) = false := by simp [h8]
  have E := Lib.hid e
  clear e h1 h2 h4 h8
  go_enter Tryz.func139, Tryz.ntmps139
  go_wp2
  go_ret
  exact ⟨ret_bool E.out.symm, rfl⟩

end Go.Proofs.YtlccbekalccahaaGreatDoor
