/-
  Several texts in one: What Get tells, in plain words, and the contract of ident; The contracts of ident; The contract of the document's own GetIdent.
-/
import Derived.Test.YtfglppjilcaafaaGreatDoorTbH10
import Derived.Lib.BufferWrite
import Derived.Deep.WholeRow
namespace Go.Proofs.YtfglppjilcaafaaGreatDoor
open Go.Lib (hid)
open Go.RowKit
def Clean (l : List UInt8) (k : Nat) : Prop := ∀ j (h : j < l.length), j < k → faultN j l[j] = 0
def Told (l : List UInt8) (c p : Nat) : Prop :=
 (c = 0 ∧ p = 0 ∧ Clean l 7 ∧ 16 ≤ l.length) ∨ (c = 2 ∧ p = l.length ∧ Clean l 7 ∧ l.length < 16) ∨ (0 < c ∧ p < 7 ∧ Clean l p ∧ ∃ h : p < l.length, faultN p l[p] = c)
def idOf (l : List UInt8) (c : Nat) : Value := if c = 0 then idV (l.getD 4 0 == 2) (l.getD 5 0 == 2) (l.getD 7 0) (l.getD 8 0) else idV false false 0 0
def Err (w : World) (e : Value) (c p : Nat) : Prop :=
 (c = 0 ∧ p = 0 ∧ e = .nilIface) ∨ (0 < c ∧ ∃ b, e = .iface 116 (.pointer (some ⟨b, 0, none⟩)) ∧ b < w.heap.size ∧ w.cell? ⟨b, 0, none⟩ = some (.int .i64 p) ∧ w.cell? ⟨b, 1, none⟩ = some (.int .i64 c))
theorem Clean.zero (l : List UInt8) : Clean l 0 := fun _ _ h => absurd h (Nat.not_lt_zero _)
theorem Clean.succ {l : List UInt8} {k : Nat} (h : Clean l k) (hk : ∀ h : k < l.length, faultN k l[k] = 0) : Clean l (k + 1) := fun j hj hlt => by
 rcases Nat.lt_or_ge j k with h1 | h1
 ·exact h j hj h1
 ·obtain rfl : j = k := by omega
  exact hk hj
theorem Told.one {l : List UInt8} {c p c' p' : Nat} (h : Told l c p) (h' : Told l c' p') : c = c' ∧ p = p' := by
 have cl : ∀ {q c}, Clean l 7 → 0 < c → q < 7 → (∃ h : q < l.length, faultN q l[q] = c) → False := fun hc h0 hq ⟨h1, h2⟩ => by
  have := hc _ h1 hq; omega
 rcases h with ⟨rfl, rfl, h1, h2⟩ | ⟨rfl, rfl, h1, h2⟩ | ⟨h1, h2, h3, h4⟩ <;> rcases h' with ⟨rfl, rfl, k1, k2⟩ | ⟨rfl, rfl, k1, k2⟩ | ⟨k1, k2, k3, k4⟩
 ·exact ⟨rfl, rfl⟩
 ·omega
 ·exact (cl h1 k1 k2 k4).elim
 ·omega
 ·exact ⟨rfl, rfl⟩
 ·exact (cl h1 k1 k2 k4).elim
 ·exact (cl k1 h1 h2 h4).elim
 ·exact (cl k1 h1 h2 h4).elim
 ·obtain ⟨x1, x2⟩ := h4
  obtain ⟨y1, y2⟩ := k4
  rcases Nat.lt_trichotomy p p' with h | h | h
  ·have := k3 p x1 h; omega
  ·subst h; exact ⟨by omega, rfl⟩
  ·have := h3 p' y1 h; omega
def Got (l : List UInt8) (w : World) (e : Ending) (w' : World) : Prop :=
 ∃ c p err, e = .returned (.tuple #[idOf l c, err]) ∧ Told l c p ∧ Err w' err c p ∧ Grow w w'
def Held (W : World) (g : Nat) (x : Value) : Prop :=
 ∃ a b c d, x = .agg #[a, b, c, d] ∧ W.cell? ⟨g, 0, none⟩ = some a ∧ W.cell? ⟨g, 1, none⟩ = some b ∧ W.cell? ⟨g, 2, none⟩ = some c ∧ W.cell? ⟨g, 3, none⟩ = some d
theorem loadVar_id {W : World} {g : Nat} {x : Value} (h : Held W g x) : (loadVar 25 ⟨g, 0, none⟩).run Tryz.prog W = .ok x W := by
 obtain ⟨a, b, c, d, rfl, h0, h1, h2, h3⟩ := h
 unfold loadVar
 go_simp
 done
theorem Held.new (w : World) (o : Obj) (a b c d : Value) (t : TypeId) : Held ((w.alloc (.cells #[a, b, c, d] t)).alloc o) w.heap.size (.agg #[a, b, c, d]) := by
 refine ⟨a, b, c, d, rfl, ?_, ?_, ?_, ?_⟩ <;> simp
theorem Err.new (w : World) (o : Obj) (c p : Nat) (t : TypeId) (h : 0 < c) : Err ((w.alloc o).alloc (.cells #[.int .i64 p, .int .i64 c] t)) (.iface 116 (.pointer (some ⟨w.heap.size + 1, 0, none⟩))) c p :=
 .inr ⟨h, w.heap.size + 1, rfl, by simp, by simp, by simp⟩
theorem got_ret {l : List UInt8} {w W : World} {tmps : Array Value} {g c p : Nat} {err : Value} (ht : tmps.getD 2 undef = .pointer (some ⟨g, 0, none⟩)) (he : tmps.getD 3 undef = err)
  (hx : Held W g (idOf l c)) (h1 : Told l c p) (h2 : Err W err c p) (h3 : Grow w W) : bodyPost Tryz.prog Tryz.f63 (Got l w) .ret ⟨tmps, []⟩ W := by
 refine bodyPost_ret (v := .tuple #[idOf l c, err]) ?_ rfl ⟨c, p, err, rfl, h1, h2, h3⟩
 rw [results_cell_tmp rfl, ht, he]
 simp [asAddr, Result.andThen, loadVar_id hx]
theorem idGet_none (A : Option Addr) (c : Nat) (w : World) : Calls Tryz.prog 63 #[.slice A 0 c] w (Got [] w) := by
 have ht : Told [] 2 0 := .inr (.inl ⟨rfl, rfl, fun j h => absurd h (Nat.not_lt_zero _), by decide⟩)
 rcases A with _ | ad
 ·go_enter Tryz.func63, Tryz.ntmps63
  go_wp2_with fail
  go_loopw [14] (fun i wr => i = .int .i64 0 ∧ wr = w.alloc (.cells #[.bool false, .bool false, .int .u8 0, .int .u8 0] 25)) (fun _ _ => 0)
  case atStart => exact ⟨rfl, rfl⟩
  case round =>
   obtain ⟨rfl, rfl⟩ := hrel
   go_wp2
   exact got_ret rfl rfl (Held.new _ _ _ _ _ _ _) ht (Err.new _ _ 2 0 _ (by omega)) ((Grow.of_alloc _ _).trans (Grow.of_alloc _ _))
 ·obtain ⟨b, off, sp⟩ := ad
  go_enter Tryz.func63, Tryz.ntmps63
  go_wp2_with fail
  go_loopw [14] (fun i wr => i = .int .i64 0 ∧ wr = w.alloc (.cells #[.bool false, .bool false, .int .u8 0, .int .u8 0] 25)) (fun _ _ => 0)
  case atStart => exact ⟨rfl, rfl⟩
  case round =>
   obtain ⟨rfl, rfl⟩ := hrel
   go_wp2
   exact got_ret rfl rfl (Held.new _ _ _ _ _ _ _) ht (Err.new _ _ 2 0 _ (by omega)) ((Grow.of_alloc _ _).trans (Grow.of_alloc _ _))
theorem Told.bad {l : List UInt8} {k c : Nat} (hc : Clean l k) (hk : k < 7) (h : k < l.length) (hf : faultN k l[k] = c) (h0 : 0 < c) : Told l c k := .inr (.inr ⟨h0, hk, hc, h, hf⟩)
section
variable (b off c : Nat) (l : List UInt8) (w : World)
set_option maxHeartbeats 400000 in
theorem idGet_few (h0 : 0 < l.length) (h7 : l.length < 7) (hc : l.length ≤ c) (hmax : c ≤ maxLen) (hb : b < w.heap.size)
  (hcell : ∀ j (h : j < l.length), w.cell? ⟨b, off + j, none⟩ = some (.int .u8 (l[j].toNat : Int))) : Calls Tryz.prog 63 #[.slice (some ⟨b, off, none⟩) l.length c] w (Got l w) := by
 unfold maxLen at hmax
 have HC := hid hcell
 have hx : ¬ (7 : Int) ≤ (l.length : Int) := by omega
 clear hcell
 go_enter Tryz.func63, Tryz.ntmps63
 go_wp2_with fail
 go_loopw [14] (fun i wr => ∃ k : Nat, k ≤ l.length ∧ i = .int .i64 k ∧ Clean l k ∧ wr = w.alloc (.cells #[.bool false, .bool false, .int .u8 0, .int .u8 0] 25)) (fun i _ => l.length - (intOf i).toNat)
 case atStart => exact ⟨0, Nat.zero_le _, rfl, Clean.zero l, rfl⟩
 case round =>
  obtain ⟨k, hk, rfl, hcl, rfl⟩ := hrel
  have HCL := hid hcl
  clear hcl hx
  by_cases hlt : k < l.length
  ·have hv : (w.alloc (.cells #[.bool false, .bool false, .int .u8 0, .int .u8 0] 25)).cell? ⟨b, off + k, none⟩ = some (.int .u8 (l[k].toNat : Int)) := by
    rw [Below.cell (Grow.of_alloc w _) hb]; exact HC.out k hlt
   obtain ⟨v, hv0⟩ : ∃ v, l[k] = v := ⟨_, rfl⟩
   rw [hv0] at hv
   by_cases hz : faultN k v = 0
   ·have HN : Hid (Clean l (k + 1)) := HCL.out.succ fun _ => by rw [hv0]; exact hz
    have HZ := hid hz
    clear hz hv0
    go_wp2_with (go_at_call 117; refine (fault_any k v _ (by omega)).mono ?_; rintro e w' ⟨rfl, rfl⟩; rw [HZ.out])
    go_roundw
    case rel => exact ⟨k + 1, by omega, by go_num, HN.out, trivial⟩
    case measure => simp [intOf]; omega
   ·have HT : Hid (Told l (faultN k v) k) := Told.bad HCL.out (by omega) hlt (by rw [hv0]) (by omega)
    obtain ⟨f, hf⟩ : ∃ f, faultN k v = f := ⟨_, rfl⟩
    have HF := hid hf
    have HZ := hid hz
    rw [hf] at HT HZ
    have hne : ((f : Int) != 0) = true := by have := HZ.out; simp; omega
    clear hz hv0 hf
    go_wp2_with (go_at_call 117; refine (fault_any k v _ (by omega)).mono ?_; rintro e w' ⟨rfl, rfl⟩; rw [HF.out])
    exact got_ret rfl rfl (by rw [idOf, if_neg HZ.out]; exact Held.new _ _ _ _ _ _ _) HT.out (Err.new _ _ _ _ _ (by have := HZ.out; omega)) ((Grow.of_alloc _ _).trans (Grow.of_alloc _ _))
  ·have HT : Hid (Told l 2 l.length) := .inr (.inl ⟨rfl, rfl, fun j hj _ => HCL.out j hj (by omega), by omega⟩)
   go_wp2
   exact got_ret rfl rfl (Held.new _ _ _ _ _ _ _) HT.out (Err.new _ _ 2 _ _ (by omega)) ((Grow.of_alloc _ _).trans (Grow.of_alloc _ _))
set_option maxHeartbeats 400000 in
theorem idGet_more (h7 : 7 ≤ l.length) (hc : l.length ≤ c) (hmax : c ≤ maxLen) (hb : b < w.heap.size)
  (hcell : ∀ j (h : j < l.length), w.cell? ⟨b, off + j, none⟩ = some (.int .u8 (l[j].toNat : Int))) : Calls Tryz.prog 63 #[.slice (some ⟨b, off, none⟩) l.length c] w (Got l w) := by
 unfold maxLen at hmax
 have HC := hid hcell
 have hx : (7 : Int) ≤ (l.length : Int) := by omega
 have hy : (7 : Int) ≤ (c : Int) := by omega
 clear hcell
 go_enter Tryz.func63, Tryz.ntmps63
 go_wp2_with fail
 go_loopw [14] (fun i wr => ∃ k : Nat, k ≤ 7 ∧ i = .int .i64 k ∧ Clean l k ∧ wr = w.alloc (.cells #[.bool false, .bool false, .int .u8 0, .int .u8 0] 25)) (fun i _ => 7 - (intOf i).toNat)
 case atStart => exact ⟨0, Nat.zero_le _, rfl, Clean.zero l, rfl⟩
 case round =>
  obtain ⟨k, hk, rfl, hcl, rfl⟩ := hrel
  have HCL := hid hcl
  clear hcl hx hy
  by_cases hlt : k < 7
  ·have hlt' : k < l.length := by omega
   have hv : (w.alloc (.cells #[.bool false, .bool false, .int .u8 0, .int .u8 0] 25)).cell? ⟨b, off + k, none⟩ = some (.int .u8 (l[k].toNat : Int)) := by
    rw [Below.cell (Grow.of_alloc w _) hb]; exact HC.out k hlt'
   obtain ⟨v, hv0⟩ : ∃ v, l[k] = v := ⟨_, rfl⟩
   rw [hv0] at hv
   by_cases hz : faultN k v = 0
   ·have HN : Hid (Clean l (k + 1)) := HCL.out.succ fun _ => by rw [hv0]; exact hz
    have HZ := hid hz
    clear hz hv0
    go_wp2_with (go_at_call 117; refine (fault_any k v _ (by omega)).mono ?_; rintro e w' ⟨rfl, rfl⟩; rw [HZ.out])
    go_roundw
    case rel => exact ⟨k + 1, by omega, by go_num, HN.out, trivial⟩
    case measure => simp [intOf]; omega
   ·have HT : Hid (Told l (faultN k v) k) := Told.bad HCL.out (by omega) hlt' (by rw [hv0]) (by omega)
    obtain ⟨f, hf⟩ : ∃ f, faultN k v = f := ⟨_, rfl⟩
    have HF := hid hf
    have HZ := hid hz
    rw [hf] at HT HZ
    have hne : ((f : Int) != 0) = true := by have := HZ.out; simp; omega
    clear hz hv0 hf
    go_wp2_with (go_at_call 117; refine (fault_any k v _ (by omega)).mono ?_; rintro e w' ⟨rfl, rfl⟩; rw [HF.out])
    exact got_ret rfl rfl (by rw [idOf, if_neg HZ.out]; exact Held.new _ _ _ _ _ _ _) HT.out (Err.new _ _ _ _ _ (by have := HZ.out; omega)) ((Grow.of_alloc _ _).trans (Grow.of_alloc _ _))
  ·by_cases h16 : l.length < 16
   ·have HT : Hid (Told l 2 l.length) := .inr (.inl ⟨rfl, rfl, fun j hj _ => HCL.out j hj (by omega), h16⟩)
    go_wp2
    exact got_ret rfl rfl (Held.new _ _ _ _ _ _ _) HT.out (Err.new _ _ 2 _ _ (by omega)) ((Grow.of_alloc _ _).trans (Grow.of_alloc _ _))
   ·have HT : Hid (Told l 0 0) := .inl ⟨rfl, rfl, fun j hj h => HCL.out j hj (by omega), by omega⟩
    obtain ⟨v4, e4⟩ : ∃ v, l[4] = v := ⟨_, rfl⟩
    obtain ⟨v5, e5⟩ : ∃ v, l[5] = v := ⟨_, rfl⟩
    obtain ⟨v7, e7⟩ : ∃ v, l[7] = v := ⟨_, rfl⟩
    obtain ⟨v8, e8⟩ : ∃ v, l[8] = v := ⟨_, rfl⟩
    have HC4 : Hid (w.cell? ⟨b, off + 4, none⟩ = some (.int .u8 (v4.toNat : Int))) := by rw [← e4]; exact HC.out 4 (by omega)
    have HC5 : Hid (w.cell? ⟨b, off + 5, none⟩ = some (.int .u8 (v5.toNat : Int))) := by rw [← e5]; exact HC.out 5 (by omega)
    have HC7 : Hid (w.cell? ⟨b, off + 7, none⟩ = some (.int .u8 (v7.toNat : Int))) := by rw [← e7]; exact HC.out 7 (by omega)
    have HC8 : Hid (w.cell? ⟨b, off + 8, none⟩ = some (.int .u8 (v8.toNat : Int))) := by rw [← e8]; exact HC.out 8 (by omega)
    have HI : Hid (idOf l 0 = .agg #[.bool ((v4.toNat : Int) == 2), .bool ((v5.toNat : Int) == 2), .int .u8 (v7.toNat : Int), .int .u8 (v8.toNat : Int)]) := by
     have g4 : l.getD 4 0 = v4 := by rw [List.getD_eq_getElem?_getD, List.getElem?_eq_getElem (by omega), e4]; rfl
     have g5 : l.getD 5 0 = v5 := by rw [List.getD_eq_getElem?_getD, List.getElem?_eq_getElem (by omega), e5]; rfl
     have g7 : l.getD 7 0 = v7 := by rw [List.getD_eq_getElem?_getD, List.getElem?_eq_getElem (by omega), e7]; rfl
     have g8 : l.getD 8 0 = v8 := by rw [List.getD_eq_getElem?_getD, List.getElem?_eq_getElem (by omega), e8]; rfl
     have t : ∀ v : UInt8, (v == 2) = ((v.toNat : Int) == 2) := fun v => by
      rw [Bool.eq_iff_iff, beq_iff_eq, beq_iff_eq]; exact u8_eq (n := 2) (by omega)
     rw [idOf, if_pos rfl, g4, g5, g7, g8, t, t]
     exact hid rfl
    clear e4 e5 e7 e8 HC
    go_wp2_with fail
    have HG1 : Hid (Grow w (w.alloc (.cells #[.bool false, .bool false, .int .u8 0, .int .u8 0] 25)).drew) := (Grow.of_alloc _ _).trans (Grow.of_drew _)
    refine wp_region_reads [0, 1, 2, 3, 4, 5, 6, 7, 8] [9, 10] (But w.heap.size (w.alloc (.cells #[.bool false, .bool false, .int .u8 0, .int .u8 0] 25)).drew) (by kernel_rfl) (by kernel_rfl) (by kernel_rfl) (But.refl _ _) ?_
    have c4 : ∀ W, But w.heap.size (w.alloc (.cells #[.bool false, .bool false, .int .u8 0, .int .u8 0] 25)).drew W → W.cell? ⟨b, off + 4, none⟩ = some (.int .u8 (v4.toNat : Int)) := fun W h => by
     rw [h _ (by simp; omega) (by simp; omega), HG1.out.cell hb]; exact HC4.out
    have c5 : ∀ W, But w.heap.size (w.alloc (.cells #[.bool false, .bool false, .int .u8 0, .int .u8 0] 25)).drew W → W.cell? ⟨b, off + 5, none⟩ = some (.int .u8 (v5.toNat : Int)) := fun W h => by
     rw [h _ (by simp; omega) (by simp; omega), HG1.out.cell hb]; exact HC5.out
    have z4 : (4 : Int) < (l.length : Int) := by omega
    have z5 : (5 : Int) < (l.length : Int) := by omega
    repeat (refine read_take rfl (by rfl) ?_ (fun W hG => ?_) ?_; rotate_left; (go_simp; rfl); simp only [Act.put, List.setIfInBounds_toArray, List.set_cons_zero, List.set_cons_succ])
    clear c4 c5 z4 z5
    refine read_done ?_
    refine tail_op rfl (by rfl) (fun K hK => ?_)
    go_simp
    refine hK _ _ (But.alloc_drew _ _ _) ?_
    clear hK K
    refine tail_op rfl (by rfl) (fun K hK => ?_)
    go_simp
    refine hK _ _ (But.alloc_drew _ _ _) ?_
    clear hK K
    refine tail_done ?_
    go_wp2_with fail
    have HG2 : Hid (Grow w ((w.alloc (.cells #[.bool false, .bool false, .int .u8 0, .int .u8 0] 25)).alloc (.cells #[.bool ((v4.toNat : Int) == 2), .bool ((v5.toNat : Int) == 2)] 23)).drew.drew) := (((Grow.of_alloc _ _).trans (Grow.of_alloc _ _)).trans (Grow.of_drew _)).trans (Grow.of_drew _)
    refine wp_region_reads [0, 1, 2, 3, 4, 5, 6, 7] [8, 9] (But w.heap.size ((w.alloc (.cells #[.bool false, .bool false, .int .u8 0, .int .u8 0] 25)).alloc (.cells #[.bool ((v4.toNat : Int) == 2), .bool ((v5.toNat : Int) == 2)] 23)).drew.drew) (by kernel_rfl) (by kernel_rfl) (by kernel_rfl) (But.refl _ _) ?_
    have c7 : ∀ W, But w.heap.size ((w.alloc (.cells #[.bool false, .bool false, .int .u8 0, .int .u8 0] 25)).alloc (.cells #[.bool ((v4.toNat : Int) == 2), .bool ((v5.toNat : Int) == 2)] 23)).drew.drew W → W.cell? ⟨b, off + 7, none⟩ = some (.int .u8 (v7.toNat : Int)) := fun W h => by
     rw [h _ (by simp; omega) (by simp; omega), HG2.out.cell hb]; exact HC7.out
    have c8 : ∀ W, But w.heap.size ((w.alloc (.cells #[.bool false, .bool false, .int .u8 0, .int .u8 0] 25)).alloc (.cells #[.bool ((v4.toNat : Int) == 2), .bool ((v5.toNat : Int) == 2)] 23)).drew.drew W → W.cell? ⟨b, off + 8, none⟩ = some (.int .u8 (v8.toNat : Int)) := fun W h => by
     rw [h _ (by simp; omega) (by simp; omega), HG2.out.cell hb]; exact HC8.out
    have d0 : ∀ W, But w.heap.size ((w.alloc (.cells #[.bool false, .bool false, .int .u8 0, .int .u8 0] 25)).alloc (.cells #[.bool ((v4.toNat : Int) == 2), .bool ((v5.toNat : Int) == 2)] 23)).drew.drew W → W.cell? ⟨w.heap.size + 1, 0, none⟩ = some (.bool ((v4.toNat : Int) == 2)) := fun W h => by
     rw [h _ (by simp) (by simp)]; simp
    have d1 : ∀ W, But w.heap.size ((w.alloc (.cells #[.bool false, .bool false, .int .u8 0, .int .u8 0] 25)).alloc (.cells #[.bool ((v4.toNat : Int) == 2), .bool ((v5.toNat : Int) == 2)] 23)).drew.drew W → W.cell? ⟨w.heap.size + 1, 1, none⟩ = some (.bool ((v5.toNat : Int) == 2)) := fun W h => by
     rw [h _ (by simp) (by simp)]; simp
    have z7 : (7 : Int) < (l.length : Int) := by omega
    have z8 : (8 : Int) < (l.length : Int) := by omega
    repeat (refine read_take rfl (by rfl) ?_ (fun W hG => ?_) ?_; rotate_left; (go_simp; rfl); simp only [Act.put, List.setIfInBounds_toArray, List.set_cons_zero, List.set_cons_succ])
    clear c7 c8 d0 d1 z7 z8
    refine read_done ?_
    refine tail_op rfl (by rfl) (fun K hK => ?_)
    go_simp
    refine hK _ _ (But.two _ _ _ _) ?_
    clear hK K
    refine tail_op rfl (by rfl) (fun K hK => ?_)
    go_simp
    refine hK _ _ (But.two _ _ _ _) ?_
    clear hK K
    refine tail_done ?_
    go_wp2
    exact got_ret rfl rfl (by rw [HI.out]; exact Held.new _ _ _ _ _ _ _) HT.out (.inl ⟨rfl, rfl, rfl⟩) ((((Grow.of_alloc _ _).trans (Grow.of_alloc _ _)).trans (Grow.of_drew _)).trans (Grow.of_drew _))
end
theorem idGet_any (A : Option Addr) (n c : Nat) (l : List UInt8) (w : World) (h : RB w w.heap.size A n c l) : Calls Tryz.prog 63 #[.slice A n c] w (Got l w) := by
 obtain rfl := h.len
 rcases Nat.eq_zero_or_pos l.length with h0 | h0
 ·obtain rfl := List.eq_nil_of_length_eq_zero h0
  exact idGet_none A c w
 ·obtain ⟨b, off, rfl, hb, hc⟩ := h.pos h0
  rcases Nat.lt_or_ge l.length 7 with h7 | h7
  ·exact idGet_few b off c l w h0 h7 h.cap h.max hb hc
  ·exact idGet_more b off c l w h7 h.cap h.max hb hc
theorem make16 (w : World) : (Instr.makeSlice 33 (.int .i64 16) (.int .i64 16)).run Tryz.prog w = .ok (.slice (some ⟨w.heap.size, 0, none⟩) 16 16)
  (w.alloc (.cells #[.int .u8 0, .int .u8 0, .int .u8 0, .int .u8 0, .int .u8 0, .int .u8 0, .int .u8 0, .int .u8 0, .int .u8 0, .int .u8 0, .int .u8 0, .int .u8 0, .int .u8 0, .int .u8 0, .int .u8 0, .int .u8 0] 5)) := by kernel_rfl
theorem copy4 (w : World) (ob : Obj) : (Builtin.copy_ #[33, 9] 3 #[.slice (some ⟨w.heap.size + 1, 0, none⟩) 16 16, .string { data := #[127, 69, 76, 70] }]).run Tryz.prog ((w.alloc ob).alloc (.cells #[.int .u8 0, .int .u8 0, .int .u8 0, .int .u8 0, .int .u8 0, .int .u8 0, .int .u8 0, .int .u8 0, .int .u8 0, .int .u8 0, .int .u8 0, .int .u8 0, .int .u8 0, .int .u8 0, .int .u8 0, .int .u8 0] 5)) =
  .ok (.int .i64 4) ((w.alloc ob).alloc (.cells #[.int .u8 127, .int .u8 69, .int .u8 76, .int .u8 70, .int .u8 0, .int .u8 0, .int .u8 0, .int .u8 0, .int .u8 0, .int .u8 0, .int .u8 0, .int .u8 0, .int .u8 0, .int .u8 0, .int .u8 0, .int .u8 0] 5)) := by
 have e : w.heap.size + 1 = (w.alloc ob).heap.size := by simp
 rw [e, Lib.run_copy_row_string _ _ _ _ 5 _ _ _ _ _ _ _ Tryz.underlying33 (by kernel_rfl) (heap_alloc_new _ _) (by decide) (by decide), World.setRow_alloc_new]
 rfl
def idC (wide big : Bool) (o a : UInt8) : Array Value := ((idL wide big o a).map byt).toArray
theorem idPut_any (wide big : Bool) (o a : UInt8) (w : World) : Calls Tryz.prog 109 #[idV wide big o a] w fun e w' =>
  e = .returned (.slice (some ⟨w.heap.size + 1, 0, none⟩) 16 16) ∧ ∃ ob, w' = (w.alloc ob).alloc (.cells (idC wide big o a) 5) := by
 have hmk := make16
 have hcp := copy4
 unfold idV
 go_enter Tryz.func109, Tryz.ntmps109
 go_wp2_with (go_at_call 144; refine (oneOrTwo_any _ _).mono ?_; rintro e w' ⟨rfl, rfl⟩)
 go_ret
 exact ⟨rfl, _, rfl⟩
theorem refIdent_any (wide big : Bool) (o a : UInt8) (w : World) : Calls Tryz.prog 97 #[idV wide big o a] w fun e w' =>
  e = .returned (.slice (some ⟨w.heap.size + 1, 0, none⟩) 16 16) ∧ ∃ ob, w' = (w.alloc ob).alloc (.cells (idC wide big o a) 5) := by
 unfold idV
 cases wide <;> cases big <;>
 ·go_enter Tryz.func97, Tryz.ntmps97
  go_wp2
  go_ret
  exact ⟨rfl, _, rfl⟩
def Known (l : List UInt8) (w : World) (e : Ending) (w' : World) : Prop :=
 ∃ c p : Nat, e = .returned (.tuple #[idOf l c, .int .i64 c, .int .i64 p]) ∧ Told l c p ∧ Grow w w'
theorem known_ret {l : List UInt8} {w W : World} {tmps : Array Value} {g c p : Nat} (ht : tmps.getD 2 undef = .pointer (some ⟨g, 0, none⟩)) (he : tmps.getD 3 undef = .int .i64 c) (hp : tmps.getD 4 undef = .int .i64 p)
  (hx : Held W g (idOf l c)) (h1 : Told l c p) (h3 : Grow w W) : bodyPost Tryz.prog Tryz.f42 (Known l w) .ret ⟨tmps, []⟩ W := by
 refine bodyPost_ret (v := .tuple #[idOf l c, .int .i64 c, .int .i64 p]) ?_ rfl ⟨c, p, rfl, h1, h3⟩
 rw [results_cell_tmp2 rfl, ht, he, hp]
 simp [asAddr, Result.andThen, loadVar_id hx]
def want (k : Nat) : UInt8 := (idL false false 0 0).getD k 0
theorem want_fault (k : Nat) (v : UInt8) (hk : k < 7) : faultN k v = if v = want k ∨ ((k = 4 ∨ k = 5) ∧ v = 2) then 0 else if k < 4 then 3 else 4 := by
 match k, hk with
 | 0, _ => simp [faultN, want, idL]
 | 1, _ => simp [faultN, want, idL]
 | 2, _ => simp [faultN, want, idL]
 | 3, _ => simp [faultN, want, idL]
 | 4, _ => simp [faultN, want, idL, two]
 | 5, _ => simp [faultN, want, idL, two]
 | 6, _ => simp [faultN, want, idL]
theorem want_cell (w : World) (k : Nat) (hk : k < 7) (t : TypeId) : (w.alloc (.cells (idC false false 0 0) t)).cell? ⟨w.heap.size, 0 + k, none⟩ = some (.int .u8 ((want k).toNat : Int)) := by
 rw [Nat.zero_add]
 match k, hk with
 | 0, _ => simp [idC, idL, want, byt]
 | 1, _ => simp [idC, idL, want, byt]
 | 2, _ => simp [idC, idL, want, byt]
 | 3, _ => simp [idC, idL, want, byt]
 | 4, _ => simp [idC, idL, want, byt]
 | 5, _ => simp [idC, idL, want, byt]
 | 6, _ => simp [idC, idL, want, byt]
theorem Held.new3 (w : World) (o q : Obj) (a b c d : Value) (t : TypeId) (m : Nat) : Held ((((w.alloc (.cells #[a, b, c, d] t)).alloc o).alloc q).drewN m) w.heap.size (.agg #[a, b, c, d]) := by
 have h : Held (((w.alloc (.cells #[a, b, c, d] t)).alloc o).alloc q) w.heap.size (.agg #[a, b, c, d]) := by
  obtain ⟨a', b', c', d', e, h0, h1, h2, h3⟩ := Held.new w o a b c d t
  refine ⟨a', b', c', d', e, ?_, ?_, ?_, ?_⟩ <;> (rw [Below.cell (Grow.of_alloc _ _) (by simp; omega)]; assumption)
 exact h
theorem Grow.new3 (w : World) (o o' q : Obj) (m : Nat) : Grow w ((((w.alloc o).alloc o').alloc q).drewN m) := (((Grow.of_alloc _ _).trans (Grow.of_alloc _ _)).trans (Grow.of_alloc _ _)).trans (Grow.of_drewN _ _)
theorem set4 {X w : World} {g : Nat} {x : Value} (h : Held X g x) (hg : Grow w X) (hs : w.heap.size ≤ g) (a b c d : Value) :
  Held ((((X.setCell ⟨g, 0, none⟩ a).setCell ⟨g, 1, none⟩ b).setCell ⟨g, 2, none⟩ c).setCell ⟨g, 3, none⟩ d) g (.agg #[a, b, c, d]) ∧
  Grow w ((((X.setCell ⟨g, 0, none⟩ a).setCell ⟨g, 1, none⟩ b).setCell ⟨g, 2, none⟩ c).setCell ⟨g, 3, none⟩ d) := by
 obtain ⟨a', b', c', d', e, h0, h1, h2, h3⟩ := h
 have ne : ∀ i j : Nat, i ≠ j → (⟨g, i, none⟩ : Addr) ≠ ⟨g, j, none⟩ := fun i j h e => h (by injection e)
 have k1 : (X.setCell ⟨g, 0, none⟩ a).cell? ⟨g, 1, none⟩ = some b' := by rw [World.cell?_setCell_other _ _ _ _ (ne _ _ (by decide))]; exact h1
 have k2 : ((X.setCell ⟨g, 0, none⟩ a).setCell ⟨g, 1, none⟩ b).cell? ⟨g, 2, none⟩ = some c' := by
  rw [World.cell?_setCell_other _ _ _ _ (ne _ _ (by decide)), World.cell?_setCell_other _ _ _ _ (ne _ _ (by decide))]; exact h2
 have k3 : (((X.setCell ⟨g, 0, none⟩ a).setCell ⟨g, 1, none⟩ b).setCell ⟨g, 2, none⟩ c).cell? ⟨g, 3, none⟩ = some d' := by
  rw [World.cell?_setCell_other _ _ _ _ (ne _ _ (by decide)), World.cell?_setCell_other _ _ _ _ (ne _ _ (by decide)), World.cell?_setCell_other _ _ _ _ (ne _ _ (by decide))]; exact h3
 refine ⟨⟨a, b, c, d, rfl, ?_, ?_, ?_, ?_⟩, Below.setCell (Below.setCell (Below.setCell (Below.setCell hg hs _) hs _) hs _) hs _⟩
 ·rw [World.cell?_setCell_other _ _ _ _ (ne _ _ (by decide)), World.cell?_setCell_other _ _ _ _ (ne _ _ (by decide)), World.cell?_setCell_other _ _ _ _ (ne _ _ (by decide))]
  exact World.cell?_setCell_same _ _ _ h0
 ·rw [World.cell?_setCell_other _ _ _ _ (ne _ _ (by decide)), World.cell?_setCell_other _ _ _ _ (ne _ _ (by decide))]
  exact World.cell?_setCell_same _ _ _ k1
 ·rw [World.cell?_setCell_other _ _ _ _ (ne _ _ (by decide))]
  exact World.cell?_setCell_same _ _ _ k2
 ·exact World.cell?_setCell_same _ _ _ k3
theorem But.heap {g : Nat} {w W : World} (h : W.heap = w.heap) : But g w W := fun p _ _ => cell_of_heap (by rw [h])
set_option maxHeartbeats 1000000 in
set_option maxRecDepth 100000 in
theorem refGetIdent_any (A : Option Addr) (n c : Nat) (l : List UInt8) (w : World) (h : RB w w.heap.size A n c l) : Calls Tryz.prog 42 #[.slice A n c] w (Known l w) := by
 have HR := hid h
 have hcap := h.cap
 have hmax := h.max
 unfold maxLen at hmax
 have hn := hid h.len
 clear h
 go_enter Tryz.func42, Tryz.ntmps42
 go_wp2_with (go_at_call 97; refine (refIdent_any false false 0 0 _).mono ?_; rintro e w' ⟨rfl, ob, rfl⟩)
 go_loopw [6] (fun i wr => ∃ k m : Nat, k ≤ 7 ∧ k ≤ n ∧ i = .int .i64 k ∧ Clean l k ∧ wr = (((w.alloc (.cells #[.bool false, .bool false, .int .u8 0, .int .u8 0] 25)).alloc ob).alloc (.cells (idC false false 0 0) 5)).drewN m) (fun i _ => 7 - (intOf i).toNat)
 case atStart => exact ⟨0, 0, Nat.zero_le _, Nat.zero_le _, rfl, Clean.zero l, rfl⟩
 case round =>
  obtain ⟨k, m, hk7, hkn, rfl, hcl, hwr⟩ := hrel
  have HCL := hid hcl
  have HW := hid hwr
  clear hcl hwr
  by_cases hlt : k < 7
  ·by_cases hkl : k < n
   ·obtain ⟨b, off, rfl, hb, hcc⟩ := HR.out.pos (by omega)
    have hkl' : k < l.length := by have := hn.out; omega
    obtain ⟨v, hv⟩ : ∃ v, l[k] = v := ⟨_, rfl⟩
    have r1 : wr.cell? ⟨b, off + k, none⟩ = some (.int .u8 (v.toNat : Int)) := by
     rw [HW.out, ← hv, ← hcc k hkl']
     exact Below.cell (((Grow.of_alloc _ _).trans (Grow.of_alloc _ _)).trans (Grow.of_alloc _ _)) hb
    have r2 : wr.cell? ⟨w.heap.size + 1 + 1, k, none⟩ = some (.int .u8 ((want k).toNat : Int)) := by
     rw [HW.out]
     have := want_cell ((w.alloc (.cells #[.bool false, .bool false, .int .u8 0, .int .u8 0] 25)).alloc ob) k hlt 5
     simpa using this
    have HF := hid (want_fault k v hlt)
    have hvw := u8_eq (v := v) (n := (want k).toNat) (want k).toNat_lt
    rw [UInt8.ofNat_toNat] at hvw
    have hv2 := u8_eq (v := v) (n := 2) (by omega)
    by_cases hz : faultN k v = 0
    ·have HN : Hid (Clean l (k + 1)) := HCL.out.succ fun _ => by rw [hv]; exact hz
     rw [HF.out] at hz
     have hor : v = want k ∨ ((k = 4 ∨ k = 5) ∧ v = 2) := by
      rcases Classical.em (v = want k ∨ ((k = 4 ∨ k = 5) ∧ v = 2)) with h | h
      ·exact h
      ·rw [if_neg h] at hz; split at hz <;> cases hz
     clear hz hv hcc HF
     have hlt7 : (k : Int) < 7 := by omega
     have hkn' : ¬ (n : Int) ≤ (k : Int) := by omega
     by_cases h1 : v = want k
     ·have q1 : ((v.toNat : Int) == ((want k).toNat : Int)) = true := by simpa using hvw.1 h1
      generalize ((want k).toNat : Int) = y at r2 q1
      generalize (v.toNat : Int) = x at r1 q1
      clear hvw hv2 hor h1
      go_wp2_with fail
      go_quiet (fail)
      clear r1 r2
      go_wp2
      go_roundw
      case rel => exact ⟨k + 1, m + nq, by omega, by omega, by go_num, HN.out, by rw [HW.out, World.drewN_drewN]⟩
      case measure => simp [intOf]; omega
     ·have q1 : ((v.toNat : Int) == ((want k).toNat : Int)) = false := by simpa using fun e => h1 (hvw.2 e)
      have h2 : (k = 4 ∨ k = 5) ∧ v = 2 := hor.resolve_left h1
      have q4 : (v.toNat : Int) = 2 := hv2.1 h2.2
      have h45 := h2.1
      generalize ((want k).toNat : Int) = y at r2 q1
      generalize (v.toNat : Int) = x at r1 q1 q4
      subst q4
      clear hvw hv2 hor h1 h2
      by_cases h4 : k = 4
      ·have q2 : ((k : Int) == 4) = true := by simp [h4]
       clear h4 h45
       go_wp2_with fail
       go_quiet (fail)
       clear r1 r2
       go_wp2
       go_roundw
       case rel => exact ⟨k + 1, m + nq, by omega, by omega, by go_num, HN.out, by rw [HW.out, World.drewN_drewN]⟩
       case measure => simp [intOf]; omega
      ·have q2 : ((k : Int) == 4) = false := by simp; omega
       have q3 : ((k : Int) == 5) = true := by simp; omega
       clear h4 h45
       go_wp2_with fail
       go_quiet (fail)
       clear r1 r2
       go_wp2
       go_roundw
       case rel => exact ⟨k + 1, m + nq, by omega, by omega, by go_num, HN.out, by rw [HW.out, World.drewN_drewN]⟩
       case measure => simp [intOf]; omega
    ·have hno : ¬ (v = want k ∨ ((k = 4 ∨ k = 5) ∧ v = 2)) := fun h => hz (by rw [HF.out, if_pos h])
     have HB : ∀ f, faultN k v = f → 0 < f → Told l f k := fun f e h0 => Told.bad HCL.out hlt hkl' (by rw [hv, e]) h0
     have hfv := HF.out
     rw [if_neg hno] at hfv
     have q1 : ((v.toNat : Int) == ((want k).toNat : Int)) = false := by simpa using fun e => hno (.inl (hvw.2 e))
     have hq4 : (k = 4 ∨ k = 5) → ((v.toNat : Int) == 2) = false := fun h45 => by simpa using fun e => hno (.inr ⟨h45, hv2.2 e⟩)
     clear hz hcc HF hv hvw hv2 hno
     have hlt7 : (k : Int) < 7 := by omega
     have hkn' : ¬ (n : Int) ≤ (k : Int) := by omega
     by_cases h4 : k < 4
     ·have HT : Hid (Told l 3 k) := HB 3 (by rw [hfv, if_pos h4]) (by omega)
      have q2 : ((k : Int) == 4) = false := by simp; omega
      have q3 : ((k : Int) == 5) = false := by simp; omega
      generalize ((want k).toNat : Int) = y at r2 q1
      generalize (v.toNat : Int) = x at r1 q1
      clear hfv HB hq4
      go_wp2_with fail
      go_quiet (fail)
      clear r1 r2
      rw [HW.out, World.drewN_drewN]
      go_wp2
      exact known_ret rfl rfl rfl (by rw [idOf, if_neg (by decide)]; exact (set4 (Held.new3 _ _ _ _ _ _ _ _ _) (Grow.new3 _ _ _ _ _) (Nat.le_refl _) _ _ _ _).1) HT.out (set4 (Held.new3 _ _ _ _ _ _ _ _ _) (Grow.new3 _ _ _ _ _) (Nat.le_refl _) _ _ _ _).2
     ·have HT : Hid (Told l 4 k) := HB 4 (by rw [hfv, if_neg h4]) (by omega)
      clear hfv HB
      by_cases h45 : k = 4
      ·have q2 : ((k : Int) == 4) = true := by simp; omega
       have q4 := hq4 (.inl h45)
       generalize ((want k).toNat : Int) = y at r2 q1
       generalize (v.toNat : Int) = x at r1 q1 q4
       clear hq4 h45
       go_wp2_with fail
       go_quiet (fail)
       clear r1 r2
       rw [HW.out, World.drewN_drewN]
       go_wp2
       exact known_ret rfl rfl rfl (by rw [idOf, if_neg (by decide)]; exact (set4 (Held.new3 _ _ _ _ _ _ _ _ _) (Grow.new3 _ _ _ _ _) (Nat.le_refl _) _ _ _ _).1) HT.out (set4 (Held.new3 _ _ _ _ _ _ _ _ _) (Grow.new3 _ _ _ _ _) (Nat.le_refl _) _ _ _ _).2
      ·have q2 : ((k : Int) == 4) = false := by simp; omega
       by_cases h5 : k = 5
       ·have q3 : ((k : Int) == 5) = true := by simp; omega
        have q4 := hq4 (.inr h5)
        generalize ((want k).toNat : Int) = y at r2 q1
        generalize (v.toNat : Int) = x at r1 q1 q4
        clear hq4 h45 h5
        go_wp2_with fail
        go_quiet (fail)
        clear r1 r2
        rw [HW.out, World.drewN_drewN]
        go_wp2
        exact known_ret rfl rfl rfl (by rw [idOf, if_neg (by decide)]; exact (set4 (Held.new3 _ _ _ _ _ _ _ _ _) (Grow.new3 _ _ _ _ _) (Nat.le_refl _) _ _ _ _).1) HT.out (set4 (Held.new3 _ _ _ _ _ _ _ _ _) (Grow.new3 _ _ _ _ _) (Nat.le_refl _) _ _ _ _).2
       ·have q3 : ((k : Int) == 5) = false := by simp; omega
        generalize ((want k).toNat : Int) = y at r2 q1
        generalize (v.toNat : Int) = x at r1 q1
        clear hq4 h45 h5
        go_wp2_with fail
        go_quiet (fail)
        clear r1 r2
        rw [HW.out, World.drewN_drewN]
        go_wp2
        exact known_ret rfl rfl rfl (by rw [idOf, if_neg (by decide)]; exact (set4 (Held.new3 _ _ _ _ _ _ _ _ _) (Grow.new3 _ _ _ _ _) (Nat.le_refl _) _ _ _ _).1) HT.out (set4 (Held.new3 _ _ _ _ _ _ _ _ _) (Grow.new3 _ _ _ _ _) (Nat.le_refl _) _ _ _ _).2
   ·have HT : Hid (Told l 2 k) := by
     have e := hn.out
     exact .inr (.inl ⟨rfl, by omega, fun j hj _ => HCL.out j hj (by omega), by omega⟩)
    rw [HW.out]
    go_wp2
    exact known_ret rfl rfl rfl (by rw [idOf, if_neg (by decide)]; exact (set4 (Held.new3 _ _ _ _ _ _ _ _ _) (Grow.new3 _ _ _ _ _) (Nat.le_refl _) _ _ _ _).1) HT.out (set4 (Held.new3 _ _ _ _ _ _ _ _ _) (Grow.new3 _ _ _ _ _) (Nat.le_refl _) _ _ _ _).2
  ·have HC7 : Hid (Clean l 7) := fun j hj h => HCL.out j hj (by omega)
   rw [HW.out]
   by_cases h16 : n < 16
   ·have HT : Hid (Told l 2 n) := by
     have e := hn.out
     exact .inr (.inl ⟨rfl, e, HC7.out, by omega⟩)
    go_wp2
    exact known_ret rfl rfl rfl (by rw [idOf, if_neg (by decide)]; exact (set4 (Held.new3 _ _ _ _ _ _ _ _ _) (Grow.new3 _ _ _ _ _) (Nat.le_refl _) _ _ _ _).1) HT.out (set4 (Held.new3 _ _ _ _ _ _ _ _ _) (Grow.new3 _ _ _ _ _) (Nat.le_refl _) _ _ _ _).2
   ·have HT : Hid (Told l 0 0) := .inl ⟨rfl, rfl, HC7.out, by have := hn.out; omega⟩
    have hl := hn.out
    obtain ⟨b, off, rfl, hb, hcc⟩ := HR.out.pos (by omega)
    obtain ⟨v4, e4⟩ : ∃ v, l[4] = v := ⟨_, rfl⟩
    obtain ⟨v5, e5⟩ : ∃ v, l[5] = v := ⟨_, rfl⟩
    obtain ⟨v7, e7⟩ : ∃ v, l[7] = v := ⟨_, rfl⟩
    obtain ⟨v8, e8⟩ : ∃ v, l[8] = v := ⟨_, rfl⟩
    have HC4' : Hid (w.cell? ⟨b, off + 4, none⟩ = some (.int .u8 (v4.toNat : Int))) := by rw [← e4]; exact hcc 4 (by omega)
    have HC5' : Hid (w.cell? ⟨b, off + 5, none⟩ = some (.int .u8 (v5.toNat : Int))) := by rw [← e5]; exact hcc 5 (by omega)
    have HC7' : Hid (w.cell? ⟨b, off + 7, none⟩ = some (.int .u8 (v7.toNat : Int))) := by rw [← e7]; exact hcc 7 (by omega)
    have HC8' : Hid (w.cell? ⟨b, off + 8, none⟩ = some (.int .u8 (v8.toNat : Int))) := by rw [← e8]; exact hcc 8 (by omega)
    have HI : Hid (idOf l 0 = .agg #[.bool ((v4.toNat : Int) == 2), .bool ((v5.toNat : Int) == 2), .int .u8 (v7.toNat : Int), .int .u8 (v8.toNat : Int)]) := by
     have g4 : l.getD 4 0 = v4 := by rw [List.getD_eq_getElem?_getD, List.getElem?_eq_getElem (by omega), e4]; rfl
     have g5 : l.getD 5 0 = v5 := by rw [List.getD_eq_getElem?_getD, List.getElem?_eq_getElem (by omega), e5]; rfl
     have g7 : l.getD 7 0 = v7 := by rw [List.getD_eq_getElem?_getD, List.getElem?_eq_getElem (by omega), e7]; rfl
     have g8 : l.getD 8 0 = v8 := by rw [List.getD_eq_getElem?_getD, List.getElem?_eq_getElem (by omega), e8]; rfl
     have t : ∀ v : UInt8, (v == 2) = ((v.toNat : Int) == 2) := fun v => by
      rw [Bool.eq_iff_iff, beq_iff_eq, beq_iff_eq]; exact u8_eq (n := 2) (by omega)
     rw [idOf, if_pos rfl, g4, g5, g7, g8, t, t]
     exact hid rfl
    clear e4 e5 e7 e8 hcc hl
    have HG : Hid (Grow w ((((w.alloc (.cells #[.bool false, .bool false, .int .u8 0, .int .u8 0] 25)).alloc ob).alloc (.cells (idC false false 0 0) 5)).drewN m).drew) := (Grow.new3 _ _ _ _ _).trans (Grow.of_drew _)
    go_wp2_with fail
    obtain ⟨S, HS⟩ : ∃ S : World → Prop, Hid (S = But w.heap.size ((((w.alloc (.cells #[.bool false, .bool false, .int .u8 0, .int .u8 0] 25)).alloc ob).alloc (.cells (idC false false 0 0) 5)).drewN m).drew) := ⟨_, hid rfl⟩
    refine wp_region_reads [0, 1, 2, 3, 4, 5, 6, 7, 8, 9, 10, 11, 12, 13, 14, 15] [16, 17, 18] S (by kernel_rfl) (by kernel_rfl) (by kernel_rfl) (by rw [HS.out]; exact But.refl _ _) ?_
    have c4 : ∀ W, S W → W.cell? ⟨b, off + 4, none⟩ = some (.int .u8 (v4.toNat : Int)) := fun W h => by
     rw [HS.out] at h
     rw [h _ (by simp; omega) (by have := HG.out.size; simp at this ⊢; omega), HG.out.cell hb]; exact HC4'.out
    have z4 : (4 : Int) < (n : Int) := by omega
    have c5 : ∀ W, S W → W.cell? ⟨b, off + 5, none⟩ = some (.int .u8 (v5.toNat : Int)) := fun W h => by
     rw [HS.out] at h
     rw [h _ (by simp; omega) (by have := HG.out.size; simp at this ⊢; omega), HG.out.cell hb]; exact HC5'.out
    have z5 : (5 : Int) < (n : Int) := by omega
    have c7 : ∀ W, S W → W.cell? ⟨b, off + 7, none⟩ = some (.int .u8 (v7.toNat : Int)) := fun W h => by
     rw [HS.out] at h
     rw [h _ (by simp; omega) (by have := HG.out.size; simp at this ⊢; omega), HG.out.cell hb]; exact HC7'.out
    have z7 : (7 : Int) < (n : Int) := by omega
    have c8 : ∀ W, S W → W.cell? ⟨b, off + 8, none⟩ = some (.int .u8 (v8.toNat : Int)) := fun W h => by
     rw [HS.out] at h
     rw [h _ (by simp; omega) (by have := HG.out.size; simp at this ⊢; omega), HG.out.cell hb]; exact HC8'.out
    have z8 : (8 : Int) < (n : Int) := by omega
    repeat (refine read_take rfl (by rfl) ?_ (fun W hG => ?_) ?_; rotate_left; (have k4 := c4 W hG; have k5 := c5 W hG; have k7 := c7 W hG; have k8 := c8 W hG; go_simp; rfl); simp only [Act.put, List.setIfInBounds_toArray, List.set_cons_zero, List.set_cons_succ])
    clear c4 c5 c7 c8 z4 z5 z7 z8
    refine read_done ?_
    refine tail_op rfl (by rfl) (fun K hK => ?_)
    go_simp
    refine hK _ _ (by rw [HS.out]; exact ((((But.heap rfl).set _ _).set _ _).set _ _).set _ _) ?_
    clear hK K
    refine tail_op rfl (by rfl) (fun K hK => ?_)
    go_simp
    refine hK _ _ (by rw [HS.out]; exact ((((But.heap rfl).set _ _).set _ _).set _ _).set _ _) ?_
    clear hK K
    refine tail_op rfl (by rfl) (fun K hK => ?_)
    go_simp
    refine hK _ _ (by rw [HS.out]; exact ((((But.heap rfl).set _ _).set _ _).set _ _).set _ _) ?_
    clear hK K
    refine tail_done ?_
    go_wp2
    exact known_ret rfl rfl rfl (by rw [HI.out]; exact (set4 (Held.new3 _ _ _ _ _ _ _ _ _) (Grow.new3 _ _ _ _ _) (Nat.le_refl _) _ _ _ _).1) HT.out (set4 (Held.new3 _ _ _ _ _ _ _ _ _) (Grow.new3 _ _ _ _ _) (Nat.le_refl _) _ _ _ _).2
end Go.Proofs.YtfglppjilcaafaaGreatDoor
