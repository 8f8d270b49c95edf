/-
  Several texts in one: What Get tells, in plain words, and the contract of ident; The contracts of ident; Small words on beginnings, errors, and blocks of cells, that later layers use too; Plain answers of layer 4, and the contracts of head; The contracts of head; The contract of wire.
-/
import Derived.Test.YtfbimboemahhhaaGreatDoorTfG10
import Derived.Lib.BufferWrite
import Derived.Deep.WholeRow
import Derived.Test.YtfbimboemahhhaaGreatDoorTfG9
import Derived.Lib.SmallJoins
import Derived.Test.YtfbimboemahhhaaGreatDoorRows
import Derived.Test.YtfbimboemahhhaaGreatDoorTfG2
import Derived.Test.YtfbimboemahhhaaGreatDoorTfG4
import Derived.WalkKit
import Derived.Laws.ResultCell
import Derived.Lib.Hide
import Derived.Test.YtfbimboemahhhaaGreatDoorTfG7
namespace Go.Proofs.YtfbimboemahhhaaGreatDoor
open Go.Lib (hid)
open Go.RowKit
def Clean (l : List UInt8) (k : Nat) : Prop := ∀ j (h : j < l.length), j < k → faultN j l[j] = 0
def Told (l : List UInt8) (c p : Nat) : Prop :=
 (c = 0 ∧ p = 0 ∧ Clean l 7 ∧ 16 ≤ l.length) ∨ (c = 2 ∧ p = l.length ∧ Clean l 7 ∧ l.length < 16) ∨ (0 < c ∧ p < 7 ∧ Clean l p ∧ ∃ h : p < l.length, faultN p l[p] = c)
def idOf (l : List UInt8) (c : Nat) : Value := if c = 0 then idV (l.getD 4 0 == 2) (l.getD 5 0 == 2) (l.getD 7 0) (l.getD 8 0) else idV false false 0 0
def Err (w : World) (e : Value) (c p : Nat) : Prop :=
 (c = 0 ∧ p = 0 ∧ e = .nilIface) ∨ (0 < c ∧ ∃ b, e = .iface 126 (.pointer (some ⟨b, 0, none⟩)) ∧ b < w.heap.size ∧ w.cell? ⟨b, 0, none⟩ = some (.int .i64 p) ∧ w.cell? ⟨b, 1, none⟩ = some (.int .i64 c))
theorem Clean.zero (l : List UInt8) : Clean l 0 := fun _ _ h => absurd h (Nat.not_lt_zero _)
theorem Clean.succ {l : List UInt8} {k : Nat} (h : Clean l k) (hk : ∀ h : k < l.length, faultN k l[k] = 0) : Clean l (k + 1) := fun j hj hlt => by
 rcases Nat.lt_or_ge j k with h1 | h1
 ·exact h j hj h1
 ·obtain rfl : j = k := by omega
  exact hk hj
theorem Told.one {l : List UInt8} {c p c' p' : Nat} (h : Told l c p) (h' : Told l c' p') : c = c' ∧ p = p' := by
 have cl : ∀ {q c}, Clean l 7 → 0 < c → q < 7 → (∃ h : q < l.length, faultN q l[q] = c) → False := fun hc h0 hq ⟨h1, h2⟩ => by
  have := hc _ h1 hq; omega
 rcases h with ⟨rfl, rfl, h1, h2⟩ | ⟨rfl, rfl, h1, h2⟩ | ⟨h1, h2, h3, h4⟩ <;> rcases h' with ⟨rfl, rfl, k1, k2⟩ | ⟨rfl, rfl, k1, k2⟩ | ⟨k1, k2, k3, k4⟩
 ·exact ⟨rfl, rfl⟩
 ·omega
 ·exact (cl h1 k1 k2 k4).elim
 ·omega
 ·exact ⟨rfl, rfl⟩
 ·exact (cl h1 k1 k2 k4).elim
 ·exact (cl k1 h1 h2 h4).elim
 ·exact (cl k1 h1 h2 h4).elim
 ·obtain ⟨x1, x2⟩ := h4
  obtain ⟨y1, y2⟩ := k4
  rcases Nat.lt_trichotomy p p' with h | h | h
  ·have := k3 p x1 h; omega
  ·subst h; exact ⟨by omega, rfl⟩
  ·have := h3 p' y1 h; omega
def Got (l : List UInt8) (w : World) (e : Ending) (w' : World) : Prop :=
 ∃ c p err, e = .returned (.tuple #[idOf l c, err]) ∧ Told l c p ∧ Err w' err c p ∧ Grow w w'
def Held (W : World) (g : Nat) (x : Value) : Prop :=
 ∃ a b c d, x = .agg #[a, b, c, d] ∧ W.cell? ⟨g, 0, none⟩ = some a ∧ W.cell? ⟨g, 1, none⟩ = some b ∧ W.cell? ⟨g, 2, none⟩ = some c ∧ W.cell? ⟨g, 3, none⟩ = some d
theorem loadVar_id {W : World} {g : Nat} {x : Value} (h : Held W g x) : (loadVar 47 ⟨g, 0, none⟩).run Tryz.prog W = .ok x W := by
 obtain ⟨a, b, c, d, rfl, h0, h1, h2, h3⟩ := h
 unfold loadVar
 go_simp
 done
theorem Held.new (w : World) (o : Obj) (a b c d : Value) (t : TypeId) : Held ((w.alloc (.cells #[a, b, c, d] t)).alloc o) w.heap.size (.agg #[a, b, c, d]) := by
 refine ⟨a, b, c, d, rfl, ?_, ?_, ?_, ?_⟩ <;> simp
theorem Err.new (w : World) (o : Obj) (c p : Nat) (t : TypeId) (h : 0 < c) : Err ((w.alloc o).alloc (.cells #[.int .i64 p, .int .i64 c] t)) (.iface 126 (.pointer (some ⟨w.heap.size + 1, 0, none⟩))) c p :=
 .inr ⟨h, w.heap.size + 1, rfl, by simp, by simp, by simp⟩
theorem got_ret {l : List UInt8} {w W : World} {tmps : Array Value} {g c p : Nat} {err : Value} (ht : tmps.getD 2 undef = .pointer (some ⟨g, 0, none⟩)) (he : tmps.getD 3 undef = err)
  (hx : Held W g (idOf l c)) (h1 : Told l c p) (h2 : Err W err c p) (h3 : Grow w W) : bodyPost Tryz.prog Tryz.f83 (Got l w) .ret ⟨tmps, []⟩ W := by
 refine bodyPost_ret (v := .tuple #[idOf l c, err]) ?_ rfl ⟨c, p, err, rfl, h1, h2, h3⟩
 rw [results_cell_tmp rfl, ht, he]
 simp [asAddr, Result.andThen, loadVar_id hx]
theorem idGet_none (A : Option Addr) (c : Nat) (w : World) : Calls Tryz.prog 83 #[.slice A 0 c] w (Got [] w) := by
 have ht : Told [] 2 0 := .inr (.inl ⟨rfl, rfl, fun j h => absurd h (Nat.not_lt_zero _), by decide⟩)
 rcases A with _ | ad
 ·go_enter Tryz.func83, Tryz.ntmps83
  go_wp2_with fail
  go_loopw [14] (fun i wr => i = .int .i64 0 ∧ wr = w.alloc (.cells #[.bool false, .bool false, .int .u8 0, .int .u8 0] 47)) (fun _ _ => 0)
  case atStart => exact ⟨rfl, rfl⟩
  case round =>
   obtain ⟨rfl, rfl⟩ := hrel
   go_wp2
   exact got_ret rfl rfl (Held.new _ _ _ _ _ _ _) ht (Err.new _ _ 2 0 _ (by omega)) ((Grow.of_alloc _ _).trans (Grow.of_alloc _ _))
 ·obtain ⟨b, off, sp⟩ := ad
  go_enter Tryz.func83, Tryz.ntmps83
  go_wp2_with fail
  go_loopw [14] (fun i wr => i = .int .i64 0 ∧ wr = w.alloc (.cells #[.bool false, .bool false, .int .u8 0, .int .u8 0] 47)) (fun _ _ => 0)
  case atStart => exact ⟨rfl, rfl⟩
  case round =>
   obtain ⟨rfl, rfl⟩ := hrel
   go_wp2
   exact got_ret rfl rfl (Held.new _ _ _ _ _ _ _) ht (Err.new _ _ 2 0 _ (by omega)) ((Grow.of_alloc _ _).trans (Grow.of_alloc _ _))
theorem Told.bad {l : List UInt8} {k c : Nat} (hc : Clean l k) (hk : k < 7) (h : k < l.length) (hf : faultN k l[k] = c) (h0 : 0 < c) : Told l c k := .inr (.inr ⟨h0, hk, hc, h, hf⟩)
section
variable (b off c : Nat) (l : List UInt8) (w : World)
set_option maxHeartbeats 400000 in
theorem idGet_few (h0 : 0 < l.length) (h7 : l.length < 7) (hc : l.length ≤ c) (hmax : c ≤ maxLen) (hb : b < w.heap.size)
  (hcell : ∀ j (h : j < l.length), w.cell? ⟨b, off + j, none⟩ = some (.int .u8 (l[j].toNat : Int))) : Calls Tryz.prog 83 #[.slice (some ⟨b, off, none⟩) l.length c] w (Got l w) := by
 unfold maxLen at hmax
 have HC := hid hcell
 have hx : ¬ (7 : Int) ≤ (l.length : Int) := by omega
 clear hcell
 go_enter Tryz.func83, Tryz.ntmps83
 go_wp2_with fail
 go_loopw [14] (fun i wr => ∃ k : Nat, k ≤ l.length ∧ i = .int .i64 k ∧ Clean l k ∧ wr = w.alloc (.cells #[.bool false, .bool false, .int .u8 0, .int .u8 0] 47)) (fun i _ => l.length - (intOf i).toNat)
 case atStart => exact ⟨0, Nat.zero_le _, rfl, Clean.zero l, rfl⟩
 case round =>
  obtain ⟨k, hk, rfl, hcl, rfl⟩ := hrel
  have HCL := hid hcl
  clear hcl hx
  by_cases hlt : k < l.length
  ·have hv : (w.alloc (.cells #[.bool false, .bool false, .int .u8 0, .int .u8 0] 47)).cell? ⟨b, off + k, none⟩ = some (.int .u8 (l[k].toNat : Int)) := by
    rw [Below.cell (Grow.of_alloc w _) hb]; exact HC.out k hlt
   obtain ⟨v, hv0⟩ : ∃ v, l[k] = v := ⟨_, rfl⟩
   rw [hv0] at hv
   by_cases hz : faultN k v = 0
   ·have HN : Hid (Clean l (k + 1)) := HCL.out.succ fun _ => by rw [hv0]; exact hz
    have HZ := hid hz
    clear hz hv0
    go_wp2_with (go_at_call 130; refine (fault_any k v _ (by omega)).mono ?_; rintro e w' ⟨rfl, rfl⟩; rw [HZ.out])
    go_roundw
    case rel => exact ⟨k + 1, by omega, by go_num, HN.out, trivial⟩
    case measure => simp [intOf]; omega
   ·have HT : Hid (Told l (faultN k v) k) := Told.bad HCL.out (by omega) hlt (by rw [hv0]) (by omega)
    obtain ⟨f, hf⟩ : ∃ f, faultN k v = f := ⟨_, rfl⟩
    have HF := hid hf
    have HZ := hid hz
    rw [hf] at HT HZ
    have hne : ((f : Int) != 0) = true := by have := HZ.out; simp; omega
    clear hz hv0 hf
    go_wp2_with (go_at_call 130; refine (fault_any k v _ (by omega)).mono ?_; rintro e w' ⟨rfl, rfl⟩; rw [HF.out])
    exact got_ret rfl rfl (by rw [idOf, if_neg HZ.out]; exact Held.new _ _ _ _ _ _ _) HT.out (Err.new _ _ _ _ _ (by have := HZ.out; omega)) ((Grow.of_alloc _ _).trans (Grow.of_alloc _ _))
  ·have HT : Hid (Told l 2 l.length) := .inr (.inl ⟨rfl, rfl, fun j hj _ => HCL.out j hj (by omega), by omega⟩)
   go_wp2
   exact got_ret rfl rfl (Held.new _ _ _ _ _ _ _) HT.out (Err.new _ _ 2 _ _ (by omega)) ((Grow.of_alloc _ _).trans (Grow.of_alloc _ _))
set_option maxHeartbeats 400000 in
theorem idGet_more (h7 : 7 ≤ l.length) (hc : l.length ≤ c) (hmax : c ≤ maxLen) (hb : b < w.heap.size)
  (hcell : ∀ j (h : j < l.length), w.cell? ⟨b, off + j, none⟩ = some (.int .u8 (l[j].toNat : Int))) : Calls Tryz.prog 83 #[.slice (some ⟨b, off, none⟩) l.length c] w (Got l w) := by
 unfold maxLen at hmax
 have HC := hid hcell
 have hx : (7 : Int) ≤ (l.length : Int) := by omega
 have hy : (7 : Int) ≤ (c : Int) := by omega
 clear hcell
 go_enter Tryz.func83, Tryz.ntmps83
 go_wp2_with fail
 go_loopw [14] (fun i wr => ∃ k : Nat, k ≤ 7 ∧ i = .int .i64 k ∧ Clean l k ∧ wr = w.alloc (.cells #[.bool false, .bool false, .int .u8 0, .int .u8 0] 47)) (fun i _ => 7 - (intOf i).toNat)
 case atStart => exact ⟨0, Nat.zero_le _, rfl, Clean.zero l, rfl⟩
 case round =>
  obtain ⟨k, hk, rfl, hcl, rfl⟩ := hrel
  have HCL := hid hcl
  clear hcl hx hy
  by_cases hlt : k < 7
  ·have hlt' : k < l.length := by omega
   have hv : (w.alloc (.cells #[.bool false, .bool false, .int .u8 0, .int .u8 0] 47)).cell? ⟨b, off + k, none⟩ = some (.int .u8 (l[k].toNat : Int)) := by
    rw [Below.cell (Grow.of_alloc w _) hb]; exact HC.out k hlt'
   obtain ⟨v, hv0⟩ : ∃ v, l[k] = v := ⟨_, rfl⟩
   rw [hv0] at hv
   by_cases hz : faultN k v = 0
   ·have HN : Hid (Clean l (k + 1)) := HCL.out.succ fun _ => by rw [hv0]; exact hz
    have HZ := hid hz
    clear hz hv0
    go_wp2_with (go_at_call 130; refine (fault_any k v _ (by omega)).mono ?_; rintro e w' ⟨rfl, rfl⟩; rw [HZ.out])
    go_roundw
    case rel => exact ⟨k + 1, by omega, by go_num, HN.out, trivial⟩
    case measure => simp [intOf]; omega
   ·have HT : Hid (Told l (faultN k v) k) := Told.bad HCL.out (by omega) hlt' (by rw [hv0]) (by omega)
    obtain ⟨f, hf⟩ : ∃ f, faultN k v = f := ⟨_, rfl⟩
    have HF := hid hf
    have HZ := hid hz
    rw [hf] at HT HZ
    have hne : ((f : Int) != 0) = true := by have := HZ.out; simp; omega
    clear hz hv0 hf
    go_wp2_with (go_at_call 130; refine (fault_any k v _ (by omega)).mono ?_; rintro e w' ⟨rfl, rfl⟩; rw [HF.out])
    exact got_ret rfl rfl (by rw [idOf, if_neg HZ.out]; exact Held.new _ _ _ _ _ _ _) HT.out (Err.new _ _ _ _ _ (by have := HZ.out; omega)) ((Grow.of_alloc _ _).trans (Grow.of_alloc _ _))
  ·by_cases h16 : l.length < 16
   ·have HT : Hid (Told l 2 l.length) := .inr (.inl ⟨rfl, rfl, fun j hj _ => HCL.out j hj (by omega), h16⟩)
    go_wp2
    exact got_ret rfl rfl (Held.new _ _ _ _ _ _ _) HT.out (Err.new _ _ 2 _ _ (by omega)) ((Grow.of_alloc _ _).trans (Grow.of_alloc _ _))
   ·have HT : Hid (Told l 0 0) := .inl ⟨rfl, rfl, fun j hj h => HCL.out j hj (by omega), by omega⟩
    obtain ⟨v4, e4⟩ : ∃ v, l[4] = v := ⟨_, rfl⟩
    obtain ⟨v5, e5⟩ : ∃ v, l[5] = v := ⟨_, rfl⟩
    obtain ⟨v7, e7⟩ : ∃ v, l[7] = v := ⟨_, rfl⟩
    obtain ⟨v8, e8⟩ : ∃ v, l[8] = v := ⟨_, rfl⟩
    have HC4 : Hid (w.cell? ⟨b, off + 4, none⟩ = some (.int .u8 (v4.toNat : Int))) := by rw [← e4]; exact HC.out 4 (by omega)
    have HC5 : Hid (w.cell? ⟨b, off + 5, none⟩ = some (.int .u8 (v5.toNat : Int))) := by rw [← e5]; exact HC.out 5 (by omega)
    have HC7 : Hid (w.cell? ⟨b, off + 7, none⟩ = some (.int .u8 (v7.toNat : Int))) := by rw [← e7]; exact HC.out 7 (by omega)
    have HC8 : Hid (w.cell? ⟨b, off + 8, none⟩ = some (.int .u8 (v8.toNat : Int))) := by rw [← e8]; exact HC.out 8 (by omega)
    have HI : Hid (idOf l 0 = .agg #[.bool ((v4.toNat : Int) == 2), .bool ((v5.toNat : Int) == 2), .int .u8 (v7.toNat : Int), .int .u8 (v8.toNat : Int)]) := by
     have g4 : l.getD 4 0 = v4 := by rw [List.getD_eq_getElem?_getD, List.getElem?_eq_getElem (by omega), e4]; rfl
     have g5 : l.getD 5 0 = v5 := by rw [List.getD_eq_getElem?_getD, List.getElem?_eq_getElem (by omega), e5]; rfl
     have g7 : l.getD 7 0 = v7 := by rw [List.getD_eq_getElem?_getD, List.getElem?_eq_getElem (by omega), e7]; rfl
     have g8 : l.getD 8 0 = v8 := by rw [List.getD_eq_getElem?_getD, List.getElem?_eq_getElem (by omega), e8]; rfl
     have t : ∀ v : UInt8, (v == 2) = ((v.toNat : Int) == 2) := fun v => by
      rw [Bool.eq_iff_iff, beq_iff_eq, beq_iff_eq]; exact u8_eq (n := 2) (by omega)
     rw [idOf, if_pos rfl, g4, g5, g7, g8, t, t]
     exact hid rfl
    clear e4 e5 e7 e8 HC
    go_wp2_with fail
    have HG1 : Hid (Grow w (w.alloc (.cells #[.bool false, .bool false, .int .u8 0, .int .u8 0] 47)).drew) := (Grow.of_alloc _ _).trans (Grow.of_drew _)
    refine wp_region_reads [0, 1, 2, 3, 4, 5, 6, 7, 8] [9, 10] (But w.heap.size (w.alloc (.cells #[.bool false, .bool false, .int .u8 0, .int .u8 0] 47)).drew) (by kernel_rfl) (by kernel_rfl) (by kernel_rfl) (But.refl _ _) ?_
    have c4 : ∀ W, But w.heap.size (w.alloc (.cells #[.bool false, .bool false, .int .u8 0, .int .u8 0] 47)).drew W → W.cell? ⟨b, off + 4, none⟩ = some (.int .u8 (v4.toNat : Int)) := fun W h => by
     rw [h _ (by simp; omega) (by simp; omega), HG1.out.cell hb]; exact HC4.out
    have c5 : ∀ W, But w.heap.size (w.alloc (.cells #[.bool false, .bool false, .int .u8 0, .int .u8 0] 47)).drew W → W.cell? ⟨b, off + 5, none⟩ = some (.int .u8 (v5.toNat : Int)) := fun W h => by
     rw [h _ (by simp; omega) (by simp; omega), HG1.out.cell hb]; exact HC5.out
    have z4 : (4 : Int) < (l.length : Int) := by omega
    have z5 : (5 : Int) < (l.length : Int) := by omega
    repeat (refine read_take rfl (by rfl) ?_ (fun W hG => ?_) ?_; rotate_left; (go_simp; rfl); simp only [Act.put, List.setIfInBounds_toArray, List.set_cons_zero, List.set_cons_succ])
    clear c4 c5 z4 z5
    refine read_done ?_
    refine tail_op rfl (by rfl) (fun K hK => ?_)
    go_simp
    refine hK _ _ (But.alloc_drew _ _ _) ?_
    clear hK K
    refine tail_op rfl (by rfl) (fun K hK => ?_)
    go_simp
    refine hK _ _ (But.alloc_drew _ _ _) ?_
    clear hK K
    refine tail_done ?_
    go_wp2_with fail
    have HG2 : Hid (Grow w ((w.alloc (.cells #[.bool false, .bool false, .int .u8 0, .int .u8 0] 47)).alloc (.cells #[.bool ((v4.toNat : Int) == 2), .bool ((v5.toNat : Int) == 2)] 23)).drew.drew) := (((Grow.of_alloc _ _).trans (Grow.of_alloc _ _)).trans (Grow.of_drew _)).trans (Grow.of_drew _)
    refine wp_region_reads [0, 1, 2, 3, 4, 5, 6, 7] [8, 9] (But w.heap.size ((w.alloc (.cells #[.bool false, .bool false, .int .u8 0, .int .u8 0] 47)).alloc (.cells #[.bool ((v4.toNat : Int) == 2), .bool ((v5.toNat : Int) == 2)] 23)).drew.drew) (by kernel_rfl) (by kernel_rfl) (by kernel_rfl) (But.refl _ _) ?_
    have c7 : ∀ W, But w.heap.size ((w.alloc (.cells #[.bool false, .bool false, .int .u8 0, .int .u8 0] 47)).alloc (.cells #[.bool ((v4.toNat : Int) == 2), .bool ((v5.toNat : Int) == 2)] 23)).drew.drew W → W.cell? ⟨b, off + 7, none⟩ = some (.int .u8 (v7.toNat : Int)) := fun W h => by
     rw [h _ (by simp; omega) (by simp; omega), HG2.out.cell hb]; exact HC7.out
    have c8 : ∀ W, But w.heap.size ((w.alloc (.cells #[.bool false, .bool false, .int .u8 0, .int .u8 0] 47)).alloc (.cells #[.bool ((v4.toNat : Int) == 2), .bool ((v5.toNat : Int) == 2)] 23)).drew.drew W → W.cell? ⟨b, off + 8, none⟩ = some (.int .u8 (v8.toNat : Int)) := fun W h => by
     rw [h _ (by simp; omega) (by simp; omega), HG2.out.cell hb]; exact HC8.out
    have d0 : ∀ W, But w.heap.size ((w.alloc (.cells #[.bool false, .bool false, .int .u8 0, .int .u8 0] 47)).alloc (.cells #[.bool ((v4.toNat : Int) == 2), .bool ((v5.toNat : Int) == 2)] 23)).drew.drew W → W.cell? ⟨w.heap.size + 1, 0, none⟩ = some (.bool ((v4.toNat : Int) == 2)) := fun W h => by
     rw [h _ (by simp) (by simp)]; simp
    have d1 : ∀ W, But w.heap.size ((w.alloc (.cells #[.bool false, .bool false, .int .u8 0, .int .u8 0] 47)).alloc (.cells #[.bool ((v4.toNat : Int) == 2), .bool ((v5.toNat : Int) == 2)] 23)).drew.drew W → W.cell? ⟨w.heap.size + 1, 1, none⟩ = some (.bool ((v5.toNat : Int) == 2)) := fun W h => by
     rw [h _ (by simp) (by simp)]; simp
    have z7 : (7 : Int) < (l.length : Int) := by omega
    have z8 : (8 : Int) < (l.length : Int) := by omega
    repeat (refine read_take rfl (by rfl) ?_ (fun W hG => ?_) ?_; rotate_left; (go_simp; rfl); simp only [Act.put, List.setIfInBounds_toArray, List.set_cons_zero, List.set_cons_succ])
    clear c7 c8 d0 d1 z7 z8
    refine read_done ?_
    refine tail_op rfl (by rfl) (fun K hK => ?_)
    go_simp
    refine hK _ _ (But.two _ _ _ _) ?_
    clear hK K
    refine tail_op rfl (by rfl) (fun K hK => ?_)
    go_simp
    refine hK _ _ (But.two _ _ _ _) ?_
    clear hK K
    refine tail_done ?_
    go_wp2
    exact got_ret rfl rfl (by rw [HI.out]; exact Held.new _ _ _ _ _ _ _) HT.out (.inl ⟨rfl, rfl, rfl⟩) ((((Grow.of_alloc _ _).trans (Grow.of_alloc _ _)).trans (Grow.of_drew _)).trans (Grow.of_drew _))
end
theorem idGet_any (A : Option Addr) (n c : Nat) (l : List UInt8) (w : World) (h : RB w w.heap.size A n c l) : Calls Tryz.prog 83 #[.slice A n c] w (Got l w) := by
 obtain rfl := h.len
 rcases Nat.eq_zero_or_pos l.length with h0 | h0
 ·obtain rfl := List.eq_nil_of_length_eq_zero h0
  exact idGet_none A c w
 ·obtain ⟨b, off, rfl, hb, hc⟩ := h.pos h0
  rcases Nat.lt_or_ge l.length 7 with h7 | h7
  ·exact idGet_few b off c l w h0 h7 h.cap h.max hb hc
  ·exact idGet_more b off c l w h7 h.cap h.max hb hc
theorem make16 (w : World) : (Instr.makeSlice 29 (.int .i64 16) (.int .i64 16)).run Tryz.prog w = .ok (.slice (some ⟨w.heap.size, 0, none⟩) 16 16)
  (w.alloc (.cells #[.int .u8 0, .int .u8 0, .int .u8 0, .int .u8 0, .int .u8 0, .int .u8 0, .int .u8 0, .int .u8 0, .int .u8 0, .int .u8 0, .int .u8 0, .int .u8 0, .int .u8 0, .int .u8 0, .int .u8 0, .int .u8 0] 5)) := by kernel_rfl
theorem copy4 (w : World) (ob : Obj) : (Builtin.copy_ #[29, 9] 3 #[.slice (some ⟨w.heap.size + 1, 0, none⟩) 16 16, .string { data := #[127, 69, 76, 70] }]).run Tryz.prog ((w.alloc ob).alloc (.cells #[.int .u8 0, .int .u8 0, .int .u8 0, .int .u8 0, .int .u8 0, .int .u8 0, .int .u8 0, .int .u8 0, .int .u8 0, .int .u8 0, .int .u8 0, .int .u8 0, .int .u8 0, .int .u8 0, .int .u8 0, .int .u8 0] 5)) =
  .ok (.int .i64 4) ((w.alloc ob).alloc (.cells #[.int .u8 127, .int .u8 69, .int .u8 76, .int .u8 70, .int .u8 0, .int .u8 0, .int .u8 0, .int .u8 0, .int .u8 0, .int .u8 0, .int .u8 0, .int .u8 0, .int .u8 0, .int .u8 0, .int .u8 0, .int .u8 0] 5)) := by
 have e : w.heap.size + 1 = (w.alloc ob).heap.size := by simp
 rw [e, Lib.run_copy_row_string _ _ _ _ 5 _ _ _ _ _ _ _ Tryz.underlying29 (by kernel_rfl) (heap_alloc_new _ _) (by decide) (by decide), World.setRow_alloc_new]
 rfl
def idC (wide big : Bool) (o a : UInt8) : Array Value := ((idL wide big o a).map byt).toArray
theorem idPut_any (wide big : Bool) (o a : UInt8) (w : World) : Calls Tryz.prog 123 #[idV wide big o a] w fun e w' =>
  e = .returned (.slice (some ⟨w.heap.size + 1, 0, none⟩) 16 16) ∧ ∃ ob, w' = (w.alloc ob).alloc (.cells (idC wide big o a) 5) := by
 have hmk := make16
 have hcp := copy4
 unfold idV
 go_enter Tryz.func123, Tryz.ntmps123
 go_wp2_with (go_at_call 153; refine (oneOrTwo_any _ _).mono ?_; rintro e w' ⟨rfl, rfl⟩)
 go_ret
 exact ⟨rfl, _, rfl⟩
theorem clean_of {l : List UInt8} {wide big : Bool} {o a : UInt8} (h : ∀ j (hj : j < l.length), j < 7 → l[j] = (idL wide big o a).getD j 0) : Clean l 7 := fun j hj hlt => by
 rw [h j hj hlt]
 match j, hlt with
 | 0, _ => simp [idL, faultN]
 | 1, _ => simp [idL, faultN]
 | 2, _ => simp [idL, faultN]
 | 3, _ => simp [idL, faultN]
 | 4, _ => cases wide <;> simp [idL, faultN, two]
 | 5, _ => cases big <;> simp [idL, faultN, two]
 | 6, _ => simp [idL, faultN]
theorem Err.grow {w w' : World} {e : Value} {c p : Nat} (h : Err w e c p) (hg : Grow w w') : Err w' e c p := by
 rcases h with h | ⟨h0, b, h1, h2, h3, h4⟩
 ·exact .inl h
 ·exact .inr ⟨h0, b, h1, Nat.lt_of_lt_of_le h2 hg.size, by rw [hg.cell h2]; exact h3, by rw [hg.cell h2]; exact h4⟩
theorem Err.nil {w : World} {e : Value} {p : Nat} (h : Err w e 0 p) : e = .nilIface := by
 rcases h with h | ⟨h0, _⟩
 ·exact h.2.2
 ·omega
theorem Err.box (w : World) (c p : Nat) (t : TypeId) (h : 0 < c) : Err (w.alloc (.cells #[.int .i64 (p : Int), .int .i64 (c : Int)] t)) (.iface 126 (.pointer (some ⟨w.heap.size, 0, none⟩))) c p :=
 .inr ⟨h, w.heap.size, rfl, by simp, by simp, by simp⟩
structure Hd where
 wide : Bool
 big : Bool
 o : UInt8
 a : UInt8
 ty : Nat
 ma : Nat
 en : Nat
 ph : Nat
 sh : Nat
 fl : Nat
 pn : Nat
 sn : Nat
 st : Nat
structure Hd.Ok (h : Hd) : Prop where
 ty : h.ty < 65536
 ma : h.ma < 65536
 en : h.en < 18446744073709551616
 ph : h.ph < 18446744073709551616
 sh : h.sh < 18446744073709551616
 fl : h.fl < 4294967296
 pn : h.pn < 65536
 sn : h.sn < 65536
 st : h.st < 65536
def Hd.C (h : Hd) : Array Value := #[.bool h.wide, .bool h.big, .int .u8 (h.o.toNat : Int), .int .u8 (h.a.toNat : Int), .int .u16 (h.ty : Int), .int .u16 (h.ma : Int), .int .u64 (h.en : Int), .int .u64 (h.ph : Int), .int .u64 (h.sh : Int), .int .u32 (h.fl : Int), .int .u16 (h.pn : Int), .int .u16 (h.sn : Int), .int .u16 (h.st : Int)]
def Hd.V (h : Hd) : Value := .agg h.C
def hd0 : Hd := ⟨false, false, 0, 0, 0, 0, 0, 0, 0, 0, 0, 0, 0⟩
def hRow (wide : Bool) : List Nat := [2, 2, 4, byWide wide 4 8, byWide wide 4 8, byWide wide 4 8, 4, 2, 2, 2, 2, 2, 2]
def Hd.N (h : Hd) : List Nat := [h.ty, h.ma, 1, h.en, h.ph, h.sh, h.fl, hSize h.wide, ifSome ((h.pn : Int) != 0) (byWide h.wide 32 56), h.pn, ifSome ((h.sh : Int) != 0) (byWide h.wide 40 64), h.sn, h.st]
theorem Hd.one (h : Hd) : h.C.all (·.oneCell') = true := by simp [Hd.C, Value.oneCell']
theorem byClass_any (wide big : Bool) (x y : Nat) (w : World) : Calls Tryz.prog 131 #[.agg #[.bool wide, .bool big], .int .i64 x, .int .i64 y] w fun e w' => e = .returned (.int .i64 (byWide wide x y : Nat)) ∧ Grow w w' := by
 cases wide
 ·go_enter Tryz.func131, Tryz.ntmps131
  go_wp2
  go_ret
  exact ⟨rfl, Grow.of_alloc _ _⟩
 ·go_enter Tryz.func131, Tryz.ntmps131
  go_wp2
  go_ret
  exact ⟨rfl, Grow.of_alloc _ _⟩
theorem hSize_any (wide big : Bool) (w : World) : Calls Tryz.prog 84 #[.agg #[.bool wide, .bool big]] w fun e w' => e = .returned (.int .i64 (hSize wide : Nat)) ∧ Grow w w' := by
 go_enter Tryz.func84, Tryz.ntmps84
 go_wp2_with fail
 refine (byClass_any wide big 52 64 _).mono ?_
 rintro e w1 ⟨rfl, hg⟩
 have HG := hid ((Grow.of_alloc _ _).trans hg)
 clear hg
 go_wp2
 go_ret
 exact ⟨rfl, HG.out⟩
theorem sizeIf_any (b : Bool) (n : Nat) (w : World) (hn : n < 1000) : Calls Tryz.prog 132 #[.bool b, .int .i64 n] w fun e w' => e = .returned (.int .u64 (ifSome b n : Nat)) ∧ w = w' := by
 have hw : IntKind.u64.wrap (n : Int) = (n : Int) := by rw [IntKind.wrap_u64]; omega
 cases b
 ·go_enter Tryz.func132, Tryz.ntmps132
  go_wp2
  go_ret
  exact ⟨rfl, rfl⟩
 ·go_enter Tryz.func132, Tryz.ntmps132
  go_wp2
  go_ret
  exact ⟨rfl, rfl⟩
theorem widths_any (wide big : Bool) (w : World) : Calls Tryz.prog 124 #[.agg #[.bool wide, .bool big]] w fun e w' => e = .returned (.agg (i64s (hRow wide))) ∧ Grow w w' := by
 go_enter Tryz.func124, Tryz.ntmps124
 go_wp2_with fail
 refine (byClass_any wide big 4 8 _).mono ?_
 rintro e w1 ⟨rfl, hg⟩
 have HG := hid (((Grow.of_alloc _ _).trans (Grow.of_alloc _ _)).trans hg)
 have hb := (Blk.new (w.alloc (.cells #[.bool wide, .bool big] 23)) 177 #[.int .i64 0, .int .i64 0, .int .i64 0, .int .i64 0, .int .i64 0, .int .i64 0, .int .i64 0, .int .i64 0, .int .i64 0, .int .i64 0, .int .i64 0, .int .i64 0, .int .i64 0]).grow hg
 clear hg
 rw [show (w.alloc (.cells #[.bool wide, .bool big] 23)).heap.size = w.heap.size + 1 by simp] at hb
 have HL : Hid (w.heap.size ≤ w.heap.size + 1) := Nat.le_succ _
 generalize w.heap.size + 1 = g at hb HL ⊢
 have HB := hid hb
 have HS : Hid (w.heap.size ≤ g) := HL.out
 clear hb
 go_wp2_with (refine wpList_store_row rfl 177 (.tmp 2) (.tmp 9) rfl g (i64s (hRow wide)) rfl rfl _ _ HB.out (by kernel_rfl) rfl (one_i64s _) ?_)
 refine bodyPost_ret (results_cell_row (cs := i64s (hRow wide)) rfl _ _ g _ (0, 0) _ rfl (HB.out.set _) Tryz.underlying177 rfl (by kernel_rfl)) rfl ?_
 exact ⟨rfl, Grow.set HG.out HS.out _⟩
set_option maxRecDepth 100000
theorem numbers_any (h : Hd) (ok : h.Ok) (w : World) : Calls Tryz.prog 87 #[h.V] w fun e w' => e = .returned (.agg (u64s h.N)) ∧ Grow w w' := by
 obtain ⟨wide, big, o, a, ty, ma, en, ph, sh, fl, pn, sn, st⟩ := h
 obtain ⟨k1, k2, k3, k4, k5, k6, k7, k8, k9⟩ := ok
 unfold Hd.V Hd.C
 simp only [] at *
 generalize (o.toNat : Int) = ov
 generalize (a.toNat : Int) = av
 go_enter Tryz.func87, Tryz.ntmps87
 go_wp2_with fail
 generalize hW : World.alloc _ _ = W0
 obtain ⟨b1, b2, b3, hg0⟩ := blk3 hW
 clear hW
 refine wp_region_leap (leap_bar (w.heap.size + 1)) [(0, true), (1, true), (2, true), (3, true), (4, true), (5, true), (6, true), (7, true), (8, true), (9, true), (10, true), (11, true), (12, true), (13, true), (14, true), (15, true), (18, true), (19, true), (20, true), (21, true), (24, true), (25, true), (26, true), (27, true), (28, true), (29, true), (30, true), (33, true), (34, true), (35, true), (36, true), (37, true), (38, true), (16, false), (17, true), (22, false), (23, false), (31, false), (32, false), (39, true), (40, false)] (by kernel_rfl) (by kernel_rfl) (by kernel_rfl) ?_
 have HG : Hid (Grow w W0.drew) := hg0.trans (Grow.of_drew _)
 have b1' := b1.drew
 have b2' := b2.drew
 have b3' := b3.drew
 generalize W0.drew = W1 at b1' b2' b3' HG ⊢
 have HX : Hid (∀ W, Bar (w.heap.size + 1) W1 W → _ ∧ _) := fun W hG => ⟨(b1'.bar hG (by omega)).c13, (b3'.bar hG (by omega)).c2⟩
 have HB := hid b2'
 clear b1 b2 b3 b1' b2' b3' hg0
 have z1 : IntKind.u64.wrap (ty : Int) = (ty : Int) := by rw [IntKind.wrap_u64]; omega
 have z2 : IntKind.u64.wrap (ma : Int) = (ma : Int) := by rw [IntKind.wrap_u64]; omega
 have z3 : IntKind.u64.wrap (fl : Int) = (fl : Int) := by rw [IntKind.wrap_u64]; omega
 have z4 : IntKind.u64.wrap (pn : Int) = (pn : Int) := by rw [IntKind.wrap_u64]; omega
 have z5 : IntKind.u64.wrap (sn : Int) = (sn : Int) := by rw [IntKind.wrap_u64]; omega
 have z6 : IntKind.u64.wrap (st : Int) = (st : Int) := by rw [IntKind.wrap_u64]; omega
 repeat (refine chain_take rfl (by rfl) ?_ (fun W hG => ?_) ?_; rotate_left; (obtain ⟨⟨x0, x1, x2, x3, x4, x5, x6, x7, x8, x9, x10, x11, x12⟩, y0, y1⟩ := HX.out W hG; go_simp; rfl); simp only [Act.put, List.setIfInBounds_toArray, List.set_cons_zero, List.set_cons_succ])
 clear HX z1 z2 z3 z4 z5 z6
 refine chain_only rfl (by rfl) (fun K hK => ?_)
 go_simp
 refine (hSize_any wide big _).mono ?_
 rintro e W2 ⟨rfl, hg⟩
 refine hK _ _ (Bar.of_grow hg) ?_
 clear hK K
 replace HG : Hid (Grow w W2) := HG.out.trans hg
 replace HB := hid (HB.out.grow hg)
 clear hg
 have s1 : hSize wide < 1000 := by cases wide <;> decide
 have z1 : IntKind.u64.wrap (hSize wide : Int) = (hSize wide : Int) := by rw [IntKind.wrap_u64]; omega
 repeat (refine chain_take rfl (by rfl) ?_ (fun W hG => ?_) ?_; rotate_left; (go_simp; rfl); simp only [Act.put, List.setIfInBounds_toArray, List.set_cons_zero, List.set_cons_succ])
 clear z1 s1
 refine chain_only rfl (by rfl) (fun K hK => ?_)
 go_simp
 refine (byClass_any wide big 32 56 _).mono ?_
 rintro e W3 ⟨rfl, hg⟩
 refine hK _ _ (Bar.of_grow hg) ?_
 clear hK K
 replace HG : Hid (Grow w W3) := HG.out.trans hg
 replace HB := hid (HB.out.grow hg)
 clear hg
 refine chain_only rfl (by rfl) (fun K hK => ?_)
 go_simp
 refine (sizeIf_any _ (byWide wide 32 56) _ (by cases wide <;> decide)).mono ?_
 rintro e W4 ⟨rfl, rfl⟩
 refine hK _ _ ((leap_bar _).refl _) ?_
 clear hK K
 refine chain_only rfl (by rfl) (fun K hK => ?_)
 go_simp
 refine (byClass_any wide big 40 64 _).mono ?_
 rintro e W4 ⟨rfl, hg⟩
 refine hK _ _ (Bar.of_grow hg) ?_
 clear hK K
 replace HG : Hid (Grow w W4) := HG.out.trans hg
 replace HB := hid (HB.out.grow hg)
 clear hg
 refine chain_only rfl (by rfl) (fun K hK => ?_)
 go_simp
 refine (sizeIf_any _ (byWide wide 40 64) _ (by cases wide <;> decide)).mono ?_
 rintro e W5 ⟨rfl, rfl⟩
 refine hK _ _ ((leap_bar _).refl _) ?_
 clear hK K
 repeat (refine chain_take rfl (by rfl) ?_ (fun W hG => ?_) ?_; rotate_left; (go_simp; rfl); simp only [Act.put, List.setIfInBounds_toArray, List.set_cons_zero, List.set_cons_succ])
 refine chain_only rfl (by rfl) (fun K hK => ?_)
 refine wp_store_row 176 (.tmp 2) (.tmp 46) rfl (w.heap.size + 1) (u64s (Hd.N ⟨wide, big, o, a, ty, ma, en, ph, sh, fl, pn, sn, st⟩)) rfl rfl _ _ HB.out (by kernel_rfl) rfl (one_u64s _) ?_
 refine hK _ _ (Bar.set _ _ _) ?_
 clear hK K
 refine chain_done ?_
 have HB5 := hid (HB.out.set (u64s (Hd.N ⟨wide, big, o, a, ty, ma, en, ph, sh, fl, pn, sn, st⟩)))
 have HG5 : Hid (Grow w _) := Grow.set HG.out (Nat.le_succ _) (u64s (Hd.N ⟨wide, big, o, a, ty, ma, en, ph, sh, fl, pn, sn, st⟩))
 generalize W4.setRow (w.heap.size + 1) (u64s (Hd.N ⟨wide, big, o, a, ty, ma, en, ph, sh, fl, pn, sn, st⟩)) = W6 at HB5 HG5 ⊢
 generalize hR : u64s (Hd.N ⟨wide, big, o, a, ty, ma, en, ph, sh, fl, pn, sn, st⟩) = R at HB5 ⊢
 have HR := hid hR
 clear HB HG hR
 go_wp2
 refine bodyPost_ret (results_cell_row (cs := R) rfl _ _ (w.heap.size + 1) _ (0, 0) _ rfl HB5.out Tryz.underlying176 rfl (by kernel_rfl)) rfl ?_
 exact ⟨by rw [HR.out], HG5.out⟩
theorem header_any (wide big : Bool) (o a : UInt8) (x0 x1 x2 x3 x4 x5 x6 x7 x8 x9 x10 x11 x12 : Nat) (w : World)
  (k0 : x0 < 65536) (k1 : x1 < 65536) (k6 : x6 < 4294967296) (k9 : x9 < 65536) (k11 : x11 < 65536) (k12 : x12 < 65536) :
  Calls Tryz.prog 86 #[idV wide big o a, .agg (u64s [x0, x1, x2, x3, x4, x5, x6, x7, x8, x9, x10, x11, x12])] w fun e w' =>
   e = .returned (Hd.V ⟨wide, big, o, a, x0, x1, x3, x4, x5, x6, x9, x11, x12⟩) ∧ Grow w w' := by
 have z0 : IntKind.u16.wrap (x0 : Int) = (x0 : Int) := by rw [IntKind.wrap_u16]; omega
 have z1 : IntKind.u16.wrap (x1 : Int) = (x1 : Int) := by rw [IntKind.wrap_u16]; omega
 have z6 : IntKind.u32.wrap (x6 : Int) = (x6 : Int) := by rw [IntKind.wrap_u32]; omega
 have z9 : IntKind.u16.wrap (x9 : Int) = (x9 : Int) := by rw [IntKind.wrap_u16]; omega
 have z11 : IntKind.u16.wrap (x11 : Int) = (x11 : Int) := by rw [IntKind.wrap_u16]; omega
 have z12 : IntKind.u16.wrap (x12 : Int) = (x12 : Int) := by rw [IntKind.wrap_u16]; omega
 clear k0 k1 k6 k9 k11 k12
 obtain ⟨R, hR⟩ : ∃ R, R = Hd.C ⟨wide, big, o, a, x0, x1, x3, x4, x5, x6, x9, x11, x12⟩ := ⟨_, rfl⟩
 have HR := hid hR
 have h1 := Hd.one ⟨wide, big, o, a, x0, x1, x3, x4, x5, x6, x9, x11, x12⟩
 rw [← hR] at h1
 have H1 := hid h1
 unfold Hd.C at hR
 simp only [] at hR
 unfold Hd.V
 rw [← HR.out]
 unfold idV u64s
 simp only [List.map_cons, List.map_nil]
 generalize (o.toNat : Int) = ov at hR ⊢
 generalize (a.toNat : Int) = av at hR ⊢
 have HR2 := hid hR
 clear h1 hR HR
 go_enter Tryz.func86, Tryz.ntmps86
 go_wp2_with (refine wpList_store_row rfl 110 (.tmp 4) (.tmp 30) rfl (w.heap.size + 1 + 1) R rfl (by rw [HR2.out]; rfl) _ _ (blk3 rfl).2.2.1 (by rw [HR2.out]; kernel_rfl) (by rw [HR2.out]; rfl) H1.out ?_)
 refine bodyPost_ret (results_cell_row (cs := R) rfl _ _ (w.heap.size + 1 + 1) _ (0, 0) _ rfl ((blk3 rfl).2.2.1.set R) Tryz.underlying110 rfl (by rw [HR2.out]; kernel_rfl)) rfl ?_
 exact ⟨rfl, Grow.set (blk3 rfl).2.2.2 (by omega) R⟩
def mayAny (i : Nat) (pn sh : Nat) : Bool := (i == 8) && (pn == 0) || (i == 10) && (sh == 0)
theorem mayBeAny_any (h : Hd) (i : Nat) (w : World) : Calls Tryz.prog 88 #[.int .i64 i, h.V] w fun e w' => e = .returned (.bool (mayAny i h.pn h.sh)) ∧ Grow w w' := by
 obtain ⟨wide, big, o, a, ty, ma, en, ph, sh, fl, pn, sn, st⟩ := h
 unfold Hd.V Hd.C
 simp only []
 generalize (o.toNat : Int) = ov
 generalize (a.toNat : Int) = av
 have E : Hid (mayAny i pn sh = (((i : Int) == 8) && ((pn : Int) == 0) || ((i : Int) == 10) && ((sh : Int) == 0))) := by
  have h1 : ∀ x y : Nat, (x == y) = ((x : Int) == (y : Int)) := fun x y => by rw [Bool.eq_iff_iff, beq_iff_eq, beq_iff_eq]; omega
  unfold mayAny
  rw [h1, h1, h1, h1]
  exact hid rfl
 generalize mayAny i pn sh = r at E ⊢
 by_cases h8 : i = 8
 ·subst h8
  by_cases hp : pn = 0
  ·subst hp
   go_enter Tryz.func88, Tryz.ntmps88
   go_wp2
   go_ret
   exact ⟨by rw [E.out]; rfl, Grow.of_alloc _ _⟩
  ·have q : ((pn : Int) == 0) = false := by simp; omega
   rw [q] at E
   clear hp
   go_enter Tryz.func88, Tryz.ntmps88
   go_wp2
   go_ret
   exact ⟨by rw [E.out]; rfl, Grow.of_alloc _ _⟩
 ·have q8 : ((i : Int) == 8) = false := by simp; omega
  by_cases h10 : i = 10
  ·subst h10
   go_enter Tryz.func88, Tryz.ntmps88
   go_wp2
   go_ret
   exact ⟨by rw [E.out]; rfl, Grow.of_alloc _ _⟩
  ·have q10 : ((i : Int) == 10) = false := by simp; omega
   rw [q8, q10] at E
   clear h8 h10
   go_enter Tryz.func88, Tryz.ntmps88
   go_wp2
   go_ret
   exact ⟨by rw [E.out]; rfl, Grow.of_alloc _ _⟩
theorem shift_any (i n : Nat) (big : Bool) (w : World) (hi : i < n) (hn : n ≤ 8) : Calls Tryz.prog 71 #[.int .i64 i, .int .i64 n, .bool big] w fun e w' => e = .returned (.int .u64 (8 * (rank i n big : Nat) : Int)) ∧ w = w' := by
 cases big
 ·go_enter Tryz.func71, Tryz.ntmps71
  go_wp2
  go_ret
  exact ⟨ret_int (by simp [rank]), rfl⟩
 ·go_enter Tryz.func71, Tryz.ntmps71
  go_wp2
  go_ret
  exact ⟨ret_int (by simp [rank]; omega), rfl⟩
end Go.Proofs.YtfbimboemahhhaaGreatDoor
