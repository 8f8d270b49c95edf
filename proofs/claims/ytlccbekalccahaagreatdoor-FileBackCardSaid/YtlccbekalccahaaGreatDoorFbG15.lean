/-
  Several texts in one: A model that may be planned; Plain answers of layer 3, and the contracts of ident; A region that draws its order, in which all that reads may be taken first, and what is left (a new block, stores, assignments) comes in one order; and results that lie in memory.
-/
import Derived.Test.YtlccbekalccahaaGreatDoorFbG14
import Derived.Test.YtlccbekalccahaaGreatDoorRows
import Derived.Test.YtlccbekalccahaaGreatDoorFbG3
import Derived.Test.YtlccbekalccahaaGreatDoorFbG1
import Derived.WalkKit
import Derived.BigQuiet
import Derived.Deep.QuietTactic
import Derived.Lib.Hide
import Derived.Laws.ResultCell

namespace Go.Proofs.YtlccbekalccahaaGreatDoor
open Go.RowKit

theorem segC_own {m : Md} {s : Sg} (h : m.segC s = 0) (ht : s.typ = 1) : s.pl.inn = -1 := by
  unfold Md.segC at h
  split at h
  · omega
  split at h
  · omega
  split at h
  · omega
  split at h
  · omega
  · rename_i h1
    omega
theorem planned_of {m : Md} (ok : m.Ok) (h : m.planC = 0) (hl : ∀ s ∈ m.segs, s.pl.own.length ≤ maxLen) (hl2 : ∀ s ∈ m.secs, s.pl.own.length ≤ maxLen) : Planned m := by
  unfold Md.planC at h
  split at h
  · omega
  · rename_i h1
    have hc : m.chk = 0 := by omega
    split at h
    · rename_i h2
      exact ⟨plan_ok ok hc hl hl2, fun k hk ht => segC_own ((Md.chk_zero hc).1 _ (m.sg_mem hk)) ht, h2⟩
    · omega
/-- What the law asks of a segment, of a section. -/
theorem Planned.seg_in {m : Md} (h : Planned m) {k : Nat} (hk : k < m.segs.length) (hi : (m.sg k).pl.inn ≠ -1) : (m.sg k).typ ≠ 1 ∧ ∃ i : Nat, (m.sg k).pl.inn = (i : Int) ∧ i < m.segs.length ∧ m.P2 k = m.P2 i + (m.sg k).pl.off ∧ m.P2 k < 18446744073709551616 := by
  have ht : (m.sg k).typ ≠ 1 := fun e => hi (h.load k hk e)
  refine ⟨ht, ?_⟩
  rcases (h.ok.sg k hk).pl ht with a | ⟨i, a, b, c, d⟩
  · exact absurd a hi
  · have e1 : m.P2 i = m.P1 i := by unfold Md.P2; rw [if_pos c]
    have e2 : m.P2 k = m.P1 i + (m.sg k).pl.off := by unfold Md.P2; rw [if_neg ht, if_neg hi, a]; rfl
    have := m.P1_le i
    exact ⟨i, a, b, by rw [e1, e2], by omega⟩
theorem Planned.sec_in {m : Md} (h : Planned m) {k : Nat} (hk : k < m.secs.length) (hi : (m.se k).pl.inn ≠ -1) : ∃ i : Nat, (m.se k).pl.inn = (i : Int) ∧ i < m.segs.length ∧ m.P3 k = m.P2 i + (m.se k).pl.off ∧ m.P3 k < 18446744073709551616 := by
  rcases h.ok.se k hk with a | ⟨i, a, b, c⟩
  · exact absurd a hi
  · have e2 : m.P3 k = m.P2 i + (m.se k).pl.off := by unfold Md.P3; rw [if_neg hi, a]; rfl
    exact ⟨i, a, b, e2, by omega⟩
theorem Planned.P2_lt {m : Md} (h : Planned m) {k : Nat} (hk : k < m.segs.length) (hi : (m.sg k).pl.inn = -1) : m.P2 k + (m.sg k).pl.size ≤ 65536 := by
  by_cases ht : (m.sg k).typ = 1
  · have a := h.load_at hk ht
    have b := h.eL_in (k := k + 1) hk
    omega
  · have a := h.other_at hk ht hi
    have b := h.eO_in (k := k + 1) hk
    omega
theorem Planned.P3_lt {m : Md} (h : Planned m) {k : Nat} (hk : k < m.secs.length) (hi : (m.se k).pl.inn = -1) : m.P3 k + (m.se k).pl.size ≤ 65536 := by
  have a := h.sec_at hk hi
  have b := h.eS_in (k := k + 1) hk
  omega

end Go.Proofs.YtlccbekalccahaaGreatDoor

namespace Go.Proofs.YtlccbekalccahaaGreatDoor
open Go.RowKit

/-- The byte of a class or of an order. -/
def two (b : Bool) : UInt8 := if b then 2 else 1
/-- What a file begins with, as a value. -/
def idV (wide big : Bool) (o a : UInt8) : Value := .agg #[.bool wide, .bool big, .int .u8 (o.toNat : Int), .int .u8 (a.toNat : Int)]
/-- What a file begins with, as bytes. -/
def idL (wide big : Bool) (o a : UInt8) : List UInt8 := [127, 69, 76, 70, two wide, two big, 1, o, a, 0, 0, 0, 0, 0, 0, 0]

/-- What is wrong with one of the first seven bytes, 0 if nothing is. -/
def faultN (k : Nat) (v : UInt8) : Nat :=
  if k < 4 then (if v = [127, 69, 76, 70].getD k 0 then 0 else 3) else if k = 6 then (if v = 1 then 0 else 4) else if v = 1 ∨ v = 2 then 0 else 4

theorem oneOrTwo_any (b : Bool) (w : World) : Calls Tryz.prog 133 #[.bool b] w fun e w' => e = .returned (.int .u8 ((two b).toNat : Int)) ∧ w = w' := by
  cases b
  · go_enter Tryz.func133, Tryz.ntmps133
    go_wp2
    go_ret
    exact ⟨rfl, rfl⟩
  · go_enter Tryz.func133, Tryz.ntmps133
    go_wp2
    go_ret
    exact ⟨rfl, rfl⟩

theorem u8_eq {v : UInt8} {n : Nat} (h : n < 256) : v = UInt8.ofNat n ↔ (v.toNat : Int) = n := by
  rw [← UInt8.toNat_inj, UInt8.toNat_ofNat', Nat.mod_eq_of_lt h]
  omega


theorem fault_0 (v : UInt8) (w : World) : Calls Tryz.prog 109 #[.int .i64 0, .int .u8 (v.toNat : Int)] w fun e w' => e = .returned (.int .i64 (faultN 0 v : Nat)) ∧ w = w' := by
  have hm : ((({ data := #[127, 69, 76, 70] } : ByteArray)[0]'(by decide)).toNat : Int) = 127 := rfl
  have c := u8_eq (v := v) (n := 127) (by omega)
  by_cases h : v = 127
  · have HF := Lib.hid (show faultN 0 v = 0 by rw [h]; rfl)
    have hx : (v.toNat : Int) = 127 := c.1 h
    generalize faultN 0 v = y at HF ⊢
    generalize (v.toNat : Int) = x at hx ⊢
    subst hx
    clear c h
    go_enter Tryz.func109, Tryz.ntmps109
    go_wp2
    go_ret
    exact ⟨ret_int (by simp [HF.out]), rfl⟩
  · have HF := Lib.hid (show faultN 0 v = 3 by simp [faultN, h])
    have hx : ((v.toNat : Int) != 127) = true := by simpa using fun e => h (c.2 e)
    generalize faultN 0 v = y at HF ⊢
    generalize (v.toNat : Int) = x at hx ⊢
    clear c h
    go_enter Tryz.func109, Tryz.ntmps109
    go_wp2
    go_ret
    exact ⟨ret_int (by simp [HF.out]), rfl⟩

theorem fault_1 (v : UInt8) (w : World) : Calls Tryz.prog 109 #[.int .i64 1, .int .u8 (v.toNat : Int)] w fun e w' => e = .returned (.int .i64 (faultN 1 v : Nat)) ∧ w = w' := by
  have hm : ((({ data := #[127, 69, 76, 70] } : ByteArray)[1]'(by decide)).toNat : Int) = 69 := rfl
  have c := u8_eq (v := v) (n := 69) (by omega)
  by_cases h : v = 69
  · have HF := Lib.hid (show faultN 1 v = 0 by rw [h]; rfl)
    have hx : (v.toNat : Int) = 69 := c.1 h
    generalize faultN 1 v = y at HF ⊢
    generalize (v.toNat : Int) = x at hx ⊢
    subst hx
    clear c h
    go_enter Tryz.func109, Tryz.ntmps109
    go_wp2
    go_ret
    exact ⟨ret_int (by simp [HF.out]), rfl⟩
  · have HF := Lib.hid (show faultN 1 v = 3 by simp [faultN, h])
    have hx : ((v.toNat : Int) != 69) = true := by simpa using fun e => h (c.2 e)
    generalize faultN 1 v = y at HF ⊢
    generalize (v.toNat : Int) = x at hx ⊢
    clear c h
    go_enter Tryz.func109, Tryz.ntmps109
    go_wp2
    go_ret
    exact ⟨ret_int (by simp [HF.out]), rfl⟩

theorem fault_2 (v : UInt8) (w : World) : Calls Tryz.prog 109 #[.int .i64 2, .int .u8 (v.toNat : Int)] w fun e w' => e = .returned (.int .i64 (faultN 2 v : Nat)) ∧ w = w' := by
  have hm : ((({ data := #[127, 69, 76, 70] } : ByteArray)[2]'(by decide)).toNat : Int) = 76 := rfl
  have c := u8_eq (v := v) (n := 76) (by omega)
  by_cases h : v = 76
  · have HF := Lib.hid (show faultN 2 v = 0 by rw [h]; rfl)
    have hx : (v.toNat : Int) = 76 := c.1 h
    generalize faultN 2 v = y at HF ⊢
    generalize (v.toNat : Int) = x at hx ⊢
    subst hx
    clear c h
    go_enter Tryz.func109, Tryz.ntmps109
    go_wp2
    go_ret
    exact ⟨ret_int (by simp [HF.out]), rfl⟩
  · have HF := Lib.hid (show faultN 2 v = 3 by simp [faultN, h])
    have hx : ((v.toNat : Int) != 76) = true := by simpa using fun e => h (c.2 e)
    generalize faultN 2 v = y at HF ⊢
    generalize (v.toNat : Int) = x at hx ⊢
    clear c h
    go_enter Tryz.func109, Tryz.ntmps109
    go_wp2
    go_ret
    exact ⟨ret_int (by simp [HF.out]), rfl⟩

theorem fault_3 (v : UInt8) (w : World) : Calls Tryz.prog 109 #[.int .i64 3, .int .u8 (v.toNat : Int)] w fun e w' => e = .returned (.int .i64 (faultN 3 v : Nat)) ∧ w = w' := by
  have hm : ((({ data := #[127, 69, 76, 70] } : ByteArray)[3]'(by decide)).toNat : Int) = 70 := rfl
  have c := u8_eq (v := v) (n := 70) (by omega)
  by_cases h : v = 70
  · have HF := Lib.hid (show faultN 3 v = 0 by rw [h]; rfl)
    have hx : (v.toNat : Int) = 70 := c.1 h
    generalize faultN 3 v = y at HF ⊢
    generalize (v.toNat : Int) = x at hx ⊢
    subst hx
    clear c h
    go_enter Tryz.func109, Tryz.ntmps109
    go_wp2
    go_ret
    exact ⟨ret_int (by simp [HF.out]), rfl⟩
  · have HF := Lib.hid (show faultN 3 v = 3 by simp [faultN, h])
    have hx : ((v.toNat : Int) != 70) = true := by simpa using fun e => h (c.2 e)
    generalize faultN 3 v = y at HF ⊢
    generalize (v.toNat : Int) = x at hx ⊢
    clear c h
    go_enter Tryz.func109, Tryz.ntmps109
    go_wp2
    go_ret
    exact ⟨ret_int (by simp [HF.out]), rfl⟩

theorem fault_45 (k : Nat) (v : UInt8) (w : World) (hk : k = 4 ∨ k = 5) : Calls Tryz.prog 109 #[.int .i64 k, .int .u8 (v.toNat : Int)] w fun e w' => e = .returned (.int .i64 (faultN k v : Nat)) ∧ w = w' := by
  have hk1 : ¬ k < 4 := by omega
  have hk2 : ¬ k = 6 := by omega
  have c := u8_eq (v := v) (n := 1) (by omega)
  have c' := u8_eq (v := v) (n := 2) (by omega)
  by_cases h : v = 1
  · have HF := Lib.hid (show faultN k v = 0 by simp [faultN, h, hk1, hk2])
    have hx : (v.toNat : Int) = 1 := c.1 h
    generalize faultN k v = y at HF ⊢
    generalize (v.toNat : Int) = x at hx ⊢
    subst hx
    clear c h c' hk1 hk2
    go_enter Tryz.func109, Tryz.ntmps109
    go_wp2
    go_ret
    exact ⟨ret_int (by simp [HF.out]), rfl⟩
  by_cases h2 : v = 2
  · have HF := Lib.hid (show faultN k v = 0 by simp [faultN, h2, hk1, hk2])
    have hx : (v.toNat : Int) = 2 := c'.1 h2
    generalize faultN k v = y at HF ⊢
    generalize (v.toNat : Int) = x at hx ⊢
    subst hx
    clear c h c' h2 hk1 hk2
    go_enter Tryz.func109, Tryz.ntmps109
    go_wp2
    go_ret
    exact ⟨ret_int (by simp [HF.out]), rfl⟩
  · have HF := Lib.hid (show faultN k v = 4 by simp [faultN, h, h2, hk1, hk2])
    have hx : ((v.toNat : Int) != 1) = true := by simpa using fun e => h (c.2 e)
    have hy : ((v.toNat : Int) != 2) = true := by simpa using fun e => h2 (c'.2 e)
    generalize faultN k v = y at HF ⊢
    generalize (v.toNat : Int) = x at hx hy ⊢
    clear c h c' h2 hk1 hk2
    go_enter Tryz.func109, Tryz.ntmps109
    go_wp2
    go_ret
    exact ⟨ret_int (by simp [HF.out]), rfl⟩

theorem fault_6 (v : UInt8) (w : World) : Calls Tryz.prog 109 #[.int .i64 6, .int .u8 (v.toNat : Int)] w fun e w' => e = .returned (.int .i64 (faultN 6 v : Nat)) ∧ w = w' := by
  have c := u8_eq (v := v) (n := 1) (by omega)
  by_cases h : v = 1
  · have HF := Lib.hid (show faultN 6 v = 0 by simp [faultN, h])
    have hx : (v.toNat : Int) = 1 := c.1 h
    generalize faultN 6 v = y at HF ⊢
    generalize (v.toNat : Int) = x at hx ⊢
    subst hx
    clear c h
    go_enter Tryz.func109, Tryz.ntmps109
    go_wp2
    go_ret
    exact ⟨ret_int (by simp [HF.out]), rfl⟩
  · have HF := Lib.hid (show faultN 6 v = 4 by simp [faultN, h])
    have hx : ((v.toNat : Int) != 1) = true := by simpa using fun e => h (c.2 e)
    generalize faultN 6 v = y at HF ⊢
    generalize (v.toNat : Int) = x at hx ⊢
    clear c h
    go_enter Tryz.func109, Tryz.ntmps109
    go_wp2
    go_ret
    exact ⟨ret_int (by simp [HF.out]), rfl⟩

theorem fault_any (k : Nat) (v : UInt8) (w : World) (hk : k < 7) : Calls Tryz.prog 109 #[.int .i64 k, .int .u8 (v.toNat : Int)] w fun e w' => e = .returned (.int .i64 (faultN k v : Nat)) ∧ w = w' := by
  match k, hk with
  | 0, _ => exact fault_0 v w
  | 1, _ => exact fault_1 v w
  | 2, _ => exact fault_2 v w
  | 3, _ => exact fault_3 v w
  | 4, _ => exact fault_45 4 v w (.inl rfl)
  | 5, _ => exact fault_45 5 v w (.inr rfl)
  | 6, _ => exact fault_6 v w
end Go.Proofs.YtlccbekalccahaaGreatDoor

namespace Go.Proofs.YtlccbekalccahaaGreatDoor
open Go.RowKit

/-- All that was there is as it was, but for one block. -/
def But (g : Nat) (w W : World) : Prop := ∀ p : Addr, p.block ≠ g → p.block < w.heap.size → W.cell? p = w.cell? p
theorem But.refl (g : Nat) (w : World) : But g w w := fun _ _ _ => rfl
theorem But.alloc {g : Nat} {w W : World} (h : But g w W) (hs : w.heap.size ≤ W.heap.size) (o : Obj) : But g w (W.alloc o) := fun p h1 h2 => by
  rw [Below.cell (Below.alloc (Below.refl W.heap.size W) (Nat.le_refl _) o) (by omega)]
  exact h p h1 h2
theorem But.set {g : Nat} {w W : World} (h : But g w W) (off : Nat) (u : Value) : But g w (W.setCell ⟨g, off, none⟩ u) := fun p h1 h2 => by
  rw [World.cell?_setCell_other _ _ _ _ (fun e => h1 (by rw [← e]))]
  exact h p h1 h2

theorem But.grow {g : Nat} {w W : World} (h : Grow w W) : But g w W := fun _ _ h2 => h.cell h2
theorem But.alloc_drew (g : Nat) (w : World) (o : Obj) : But g w.drew (w.alloc o).drew := fun _ _ h2 => (Grow.of_alloc w o).cell h2

theorem cell_of_heap {w W : World} {p : Addr} (h : W.heap[p.block]? = w.heap[p.block]?) : W.cell? p = w.cell? p := by unfold World.cell?; rw [h]
/-- A block of the call's own was written, with another one behind it. -/
theorem But.two (w : World) (o o' q : Obj) : But w.heap.size ((w.alloc o).alloc q) ((w.alloc o').alloc q) := fun p h1 _ => by
  refine cell_of_heap ?_
  show ((w.heap.push o').push q)[p.block]? = ((w.heap.push o).push q)[p.block]?
  simp only [Array.getElem?_push, Array.size_push, if_neg h1]
theorem But.one (w : World) (o o' : Obj) : But w.heap.size (w.alloc o) (w.alloc o') := fun p h1 _ => by
  refine cell_of_heap ?_
  show (w.heap.push o')[p.block]? = (w.heap.push o)[p.block]?
  simp only [Array.getElem?_push, if_neg h1]

def wpRead (P : Program) (ops : Array Oper) (S : World → Prop) (R : Act → World → Prop) : List Nat → Act → World → Prop
  | [], a, w => R a w
  | i :: r, a, w => ∃ o, ops[i]? = some o ∧ ((Region.wanted o (yielded ops a.tmps) = true ∧ ∃ v, (∀ W, S W → (execOp a.eval o).run P W = .ok (.value v) W) ∧ wpRead P ops S R r (a.put o.dst v) w) ∨
      (Region.wanted o (yielded ops a.tmps) = false ∧ wpRead P ops S R r (a.put o.dst undef) w))

def wpTail (P : Program) (ops : Array Oper) (Q : Exit → Act → World → Prop) (S : World → Prop) (R : Act → World → Prop) : List Nat → Act → World → Prop
  | [], a, w => R a w
  | i :: r, a, w => wpOp P ops Q i (fun a' w' => S w' ∧ wpTail P ops Q S R r a' w') a w

section
variable {P : Program} {ops : Array Oper} {Q : Exit → Act → World → Prop} {S : World → Prop} {R : Act → World → Prop}

theorem wpTail_sound (n : Nat) : ∀ (c : List Nat) (listed : Array Bool) (a : Act) (w : World),
    (∀ a w, R a w → wpAnyH P .any ops Q S n (Chain.after listed (c.map fun i => (i, false))) a w) →
    Chain.ok ops (c.map fun i => (i, false)) listed = true → wpTail P ops Q S R c a w → wpAnyH P .any ops Q S (n + c.length) listed a w
  | [], listed, a, w, hR, _, h => hR a w h
  | i :: r, listed, a, w, hR, hB, h => by
    simp only [List.map_cons, Chain.ok, Bool.and_eq_true] at hB
    rw [List.length_cons, ← Nat.add_assoc]
    refine wpAnyH_all (rs := [i]) (by simpa using hB.1) (by simp) ?_
    intro k hk
    obtain rfl : k = i := by simpa using hk
    exact wpOp_mono (fun a' w' h' => ⟨h'.1, wpTail_sound n r _ a' w' hR hB.2 h'.2⟩) h

theorem wpRead_sound (hs : Region.noSelect ops = true) (hQ : ∀ c a w, ¬ Q (.panic c) a w) (n : Nat) : ∀ (c : List Nat) (listed : Array Bool) (a : Act) (w : World), S w →
    (∀ a w, R a w → wpAnyH P .any ops Q S n (Chain.after listed (c.map fun i => (i, true))) a w) →
    Chain.ok ops (c.map fun i => (i, true)) listed = true → wpRead P ops S R c a w → wpAnyH P .any ops Q S (n + c.length) listed a w
  | [], listed, a, w, _, hR, _, h => hR a w h
  | i :: r, listed, a, w, hw, hR, hB, h => by
    simp only [List.map_cons, Chain.ok, Bool.and_eq_true] at hB
    obtain ⟨o, ho, hh⟩ := h
    rw [List.length_cons, ← Nat.add_assoc]
    rcases hh with ⟨h1, v, hv, hr⟩ | ⟨h1, hr⟩
    · exact wpAnyH_take ho hs hB.1.1 hB.1.2 (fun c a w h => absurd h (hQ _ _ _)) (.inl ⟨h1, hv⟩) hw (wpRead_sound hs hQ n r _ _ w hw hR hB.2 hr)
    · exact wpAnyH_take ho hs hB.1.1 hB.1.2 (fun c a w h => absurd h (hQ _ _ _)) (.inr ⟨h1, rfl⟩) hw (wpRead_sound hs hQ n r _ _ w hw hR hB.2 hr)

/-- The region: c is read first, d comes behind it. S: what of the world is kept all the while. -/
theorem wp_region_reads {id : Nat} {a : Act} {w : World} (c d : List Nat) (S : World → Prop) (hm : P.follows .mixedOrders = true) (hs : Region.noSelect ops = true)
    (hB : (Chain.ok ops (c.map fun i => (i, true)) (Array.replicate ops.size false) && Chain.ok ops (d.map fun i => (i, false)) (Chain.after (Array.replicate ops.size false) (c.map fun i => (i, true))) && (d.length + c.length == ops.size) &&
      (Region.ready .any ops (Chain.after (Chain.after (Array.replicate ops.size false) (c.map fun i => (i, true))) (d.map fun i => (i, false))) == [])) = true)
    (h0 : S w.drew)
    (h : wpRead P ops S (wpTail P ops (NoPanic Q) S (fun a w => Q .normal a w) d) c a w.drew) : (Code.region id ops true).wp P Q a w := by
  simp only [Bool.and_eq_true] at hB
  obtain ⟨⟨⟨b1, b2⟩, b3⟩, b4⟩ := hB
  have hl : d.length + c.length = ops.size := by simpa using b3
  refine wp_region_noPanic (wp_region_held (S := S) hm ?_)
  have h1 := wpRead_sound (P := P) (ops := ops) (Q := NoPanic Q) (S := S) (R := wpTail P ops (NoPanic Q) S (fun a w => Q .normal a w) d) hs (fun _ _ _ h => h) d.length c (Array.replicate ops.size false) a w.drew h0
    (fun a w h => by
      have h2 := wpTail_sound (P := P) (ops := ops) (Q := NoPanic Q) (S := S) (R := fun a w => Q .normal a w) 0 d _ a w (fun a w h => ⟨by simpa using b4, h⟩) b2 h
      rwa [Nat.zero_add] at h2) b1 h
  rwa [hl] at h1

theorem read_take {l rest : List Oper} {i : Nat} {r : List Nat} {a : Act} {w : World} {o : Oper} (hi : l.drop i = o :: rest) (hw : Region.wanted o (yielded l.toArray a.tmps) = true) (v : Value)
    (hv : ∀ W, S W → (execOp a.eval o).run P W = .ok (.value v) W) (h : wpRead P l.toArray S R r (a.put o.dst v) w) : wpRead P l.toArray S R (i :: r) a w := ⟨o, at_of_drop hi, .inl ⟨hw, v, hv, h⟩⟩
theorem read_skip {l rest : List Oper} {i : Nat} {r : List Nat} {a : Act} {w : World} {o : Oper} (hi : l.drop i = o :: rest) (hw : Region.wanted o (yielded l.toArray a.tmps) = false)
    (h : wpRead P l.toArray S R r (a.put o.dst undef) w) : wpRead P l.toArray S R (i :: r) a w := ⟨o, at_of_drop hi, .inr ⟨hw, h⟩⟩
theorem read_done {a : Act} {w : World} (h : R a w) : wpRead P ops S R [] a w := h
theorem tail_op {l rest : List Oper} {i : Nat} {r : List Nat} {a : Act} {w : World} {o : Oper} (hi : l.drop i = o :: rest) (hw : Region.wanted o (yielded l.toArray a.tmps) = true)
    (h : ∀ K : Act → World → Prop, (∀ a' w', S w' → wpTail P l.toArray Q S R r a' w' → K a' w') → o.wp P a w K Q) : wpTail P l.toArray Q S R (i :: r) a w := by
  unfold wpTail wpOp
  simp only [at_of_drop hi, hw, if_true]
  exact .inl (h _ fun a' w' h1 h2 => ⟨h1, h2⟩)
theorem tail_done {a : Act} {w : World} (h : R a w) : wpTail P ops Q S R [] a w := h
end
attribute [irreducible] wpRead wpTail

theorem results_cell_tmp2 {fn : Func} {p u v : Tmp} {ty : TypeId} (h : fn.results = #[.cell p ty, .tmp u, .tmp v]) (tmps : Array Value) (P : Program) (w : World) :
    (results fn tmps).run P w =
      ((asAddr (tmps.getD p undef)).run P w).andThen fun a w₁ => ((loadVar ty a).run P w₁).andThen fun x w₂ => .ok (.tuple #[x, tmps.getD u undef, tmps.getD v undef]) w₂ := by
  simp only [results, h]
  simp [Sem.run_bind, Result.andThen]
end Go.Proofs.YtlccbekalccahaaGreatDoor
