/-
  Several texts in one: The contract of the document's own GetIdent; Small words on beginnings, errors, and blocks of cells, that later layers use too; Plain answers of layer 4, and the contracts of head; The contracts of head; The contract of wire.
-/
import Derived.Test.YtlccbekalccahaaGreatDoorFqH12
import Derived.Test.YtlccbekalccahaaGreatDoorFqH10
import Derived.Lib.SmallJoins
import Derived.Test.YtlccbekalccahaaGreatDoorRows
import Derived.Test.YtlccbekalccahaaGreatDoorFqH2
import Derived.Test.YtlccbekalccahaaGreatDoorFqH4
import Derived.WalkKit
import Derived.Laws.ResultCell
import Derived.Lib.Hide
import Derived.Test.YtlccbekalccahaaGreatDoorFqH8
namespace Go.Proofs.YtlccbekalccahaaGreatDoor
open Go.Lib (hid)
open Go.RowKit
def Known (l : List UInt8) (w : World) (e : Ending) (w' : World) : Prop :=
 ∃ c p : Nat, e = .returned (.tuple #[idOf l c, .int .i64 c, .int .i64 p]) ∧ Told l c p ∧ Grow w w'
theorem known_ret {l : List UInt8} {w W : World} {tmps : Array Value} {g c p : Nat} (ht : tmps.getD 2 undef = .pointer (some ⟨g, 0, none⟩)) (he : tmps.getD 3 undef = .int .i64 c) (hp : tmps.getD 4 undef = .int .i64 p)
  (hx : Held W g (idOf l c)) (h1 : Told l c p) (h3 : Grow w W) : bodyPost Tryz.prog Tryz.f80 (Known l w) .ret ⟨tmps, []⟩ W := by
 refine bodyPost_ret (v := .tuple #[idOf l c, .int .i64 c, .int .i64 p]) ?_ rfl ⟨c, p, rfl, h1, h3⟩
 rw [results_cell_tmp2 rfl, ht, he, hp]
 simp [asAddr, Result.andThen, loadVar_id hx]
def want (k : Nat) : UInt8 := (idL false false 0 0).getD k 0
theorem want_fault (k : Nat) (v : UInt8) (hk : k < 7) : faultN k v = if v = want k ∨ ((k = 4 ∨ k = 5) ∧ v = 2) then 0 else if k < 4 then 3 else 4 := by
 match k, hk with
 | 0, _ => simp [faultN, want, idL]
 | 1, _ => simp [faultN, want, idL]
 | 2, _ => simp [faultN, want, idL]
 | 3, _ => simp [faultN, want, idL]
 | 4, _ => simp [faultN, want, idL, two]
 | 5, _ => simp [faultN, want, idL, two]
 | 6, _ => simp [faultN, want, idL]
theorem want_cell (w : World) (k : Nat) (hk : k < 7) (t : TypeId) : (w.alloc (.cells (idC false false 0 0) t)).cell? ⟨w.heap.size, 0 + k, none⟩ = some (.int .u8 ((want k).toNat : Int)) := by
 rw [Nat.zero_add]
 match k, hk with
 | 0, _ => simp [idC, idL, want, byt]
 | 1, _ => simp [idC, idL, want, byt]
 | 2, _ => simp [idC, idL, want, byt]
 | 3, _ => simp [idC, idL, want, byt]
 | 4, _ => simp [idC, idL, want, byt]
 | 5, _ => simp [idC, idL, want, byt]
 | 6, _ => simp [idC, idL, want, byt]
theorem Held.new3 (w : World) (o q : Obj) (a b c d : Value) (t : TypeId) (m : Nat) : Held ((((w.alloc (.cells #[a, b, c, d] t)).alloc o).alloc q).drewN m) w.heap.size (.agg #[a, b, c, d]) := by
 have h : Held (((w.alloc (.cells #[a, b, c, d] t)).alloc o).alloc q) w.heap.size (.agg #[a, b, c, d]) := by
  obtain ⟨a', b', c', d', e, h0, h1, h2, h3⟩ := Held.new w o a b c d t
  refine ⟨a', b', c', d', e, ?_, ?_, ?_, ?_⟩ <;> (rw [Below.cell (Grow.of_alloc _ _) (by simp; omega)]; assumption)
 exact h
theorem Grow.new3 (w : World) (o o' q : Obj) (m : Nat) : Grow w ((((w.alloc o).alloc o').alloc q).drewN m) := (((Grow.of_alloc _ _).trans (Grow.of_alloc _ _)).trans (Grow.of_alloc _ _)).trans (Grow.of_drewN _ _)
theorem set4 {X w : World} {g : Nat} {x : Value} (h : Held X g x) (hg : Grow w X) (hs : w.heap.size ≤ g) (a b c d : Value) :
  Held ((((X.setCell ⟨g, 0, none⟩ a).setCell ⟨g, 1, none⟩ b).setCell ⟨g, 2, none⟩ c).setCell ⟨g, 3, none⟩ d) g (.agg #[a, b, c, d]) ∧
  Grow w ((((X.setCell ⟨g, 0, none⟩ a).setCell ⟨g, 1, none⟩ b).setCell ⟨g, 2, none⟩ c).setCell ⟨g, 3, none⟩ d) := by
 obtain ⟨a', b', c', d', e, h0, h1, h2, h3⟩ := h
 have ne : ∀ i j : Nat, i ≠ j → (⟨g, i, none⟩ : Addr) ≠ ⟨g, j, none⟩ := fun i j h e => h (by injection e)
 have k1 : (X.setCell ⟨g, 0, none⟩ a).cell? ⟨g, 1, none⟩ = some b' := by rw [World.cell?_setCell_other _ _ _ _ (ne _ _ (by decide))]; exact h1
 have k2 : ((X.setCell ⟨g, 0, none⟩ a).setCell ⟨g, 1, none⟩ b).cell? ⟨g, 2, none⟩ = some c' := by
  rw [World.cell?_setCell_other _ _ _ _ (ne _ _ (by decide)), World.cell?_setCell_other _ _ _ _ (ne _ _ (by decide))]; exact h2
 have k3 : (((X.setCell ⟨g, 0, none⟩ a).setCell ⟨g, 1, none⟩ b).setCell ⟨g, 2, none⟩ c).cell? ⟨g, 3, none⟩ = some d' := by
  rw [World.cell?_setCell_other _ _ _ _ (ne _ _ (by decide)), World.cell?_setCell_other _ _ _ _ (ne _ _ (by decide)), World.cell?_setCell_other _ _ _ _ (ne _ _ (by decide))]; exact h3
 refine ⟨⟨a, b, c, d, rfl, ?_, ?_, ?_, ?_⟩, Below.setCell (Below.setCell (Below.setCell (Below.setCell hg hs _) hs _) hs _) hs _⟩
 ·rw [World.cell?_setCell_other _ _ _ _ (ne _ _ (by decide)), World.cell?_setCell_other _ _ _ _ (ne _ _ (by decide)), World.cell?_setCell_other _ _ _ _ (ne _ _ (by decide))]
  exact World.cell?_setCell_same _ _ _ h0
 ·rw [World.cell?_setCell_other _ _ _ _ (ne _ _ (by decide)), World.cell?_setCell_other _ _ _ _ (ne _ _ (by decide))]
  exact World.cell?_setCell_same _ _ _ k1
 ·rw [World.cell?_setCell_other _ _ _ _ (ne _ _ (by decide))]
  exact World.cell?_setCell_same _ _ _ k2
 ·exact World.cell?_setCell_same _ _ _ k3
theorem But.heap {g : Nat} {w W : World} (h : W.heap = w.heap) : But g w W := fun p _ _ => cell_of_heap (by rw [h])
set_option maxHeartbeats 1000000 in
set_option maxRecDepth 100000 in
theorem refGetIdent_any (A : Option Addr) (n c : Nat) (l : List UInt8) (w : World) (h : RB w w.heap.size A n c l) : Calls Tryz.prog 80 #[.slice A n c] w (Known l w) := by
 have HR := hid h
 have hcap := h.cap
 have hmax := h.max
 unfold maxLen at hmax
 have hn := hid h.len
 clear h
 go_enter Tryz.func80, Tryz.ntmps80
 go_wp2_with (go_at_call 56; refine (refIdent_any false false 0 0 _).mono ?_; rintro e w' ⟨rfl, ob, rfl⟩)
 go_loopw [6] (fun i wr => ∃ k m : Nat, k ≤ 7 ∧ k ≤ n ∧ i = .int .i64 k ∧ Clean l k ∧ wr = (((w.alloc (.cells #[.bool false, .bool false, .int .u8 0, .int .u8 0] 25)).alloc ob).alloc (.cells (idC false false 0 0) 5)).drewN m) (fun i _ => 7 - (intOf i).toNat)
 case atStart => exact ⟨0, 0, Nat.zero_le _, Nat.zero_le _, rfl, Clean.zero l, rfl⟩
 case round =>
  obtain ⟨k, m, hk7, hkn, rfl, hcl, hwr⟩ := hrel
  have HCL := hid hcl
  have HW := hid hwr
  clear hcl hwr
  by_cases hlt : k < 7
  ·by_cases hkl : k < n
   ·obtain ⟨b, off, rfl, hb, hcc⟩ := HR.out.pos (by omega)
    have hkl' : k < l.length := by have := hn.out; omega
    obtain ⟨v, hv⟩ : ∃ v, l[k] = v := ⟨_, rfl⟩
    have r1 : wr.cell? ⟨b, off + k, none⟩ = some (.int .u8 (v.toNat : Int)) := by
     rw [HW.out, ← hv, ← hcc k hkl']
     exact Below.cell (((Grow.of_alloc _ _).trans (Grow.of_alloc _ _)).trans (Grow.of_alloc _ _)) hb
    have r2 : wr.cell? ⟨w.heap.size + 1 + 1, k, none⟩ = some (.int .u8 ((want k).toNat : Int)) := by
     rw [HW.out]
     have := want_cell ((w.alloc (.cells #[.bool false, .bool false, .int .u8 0, .int .u8 0] 25)).alloc ob) k hlt 5
     simpa using this
    have HF := hid (want_fault k v hlt)
    have hvw := u8_eq (v := v) (n := (want k).toNat) (want k).toNat_lt
    rw [UInt8.ofNat_toNat] at hvw
    have hv2 := u8_eq (v := v) (n := 2) (by omega)
    by_cases hz : faultN k v = 0
    ·have HN : Hid (Clean l (k + 1)) := HCL.out.succ fun _ => by rw [hv]; exact hz
     rw [HF.out] at hz
     have hor : v = want k ∨ ((k = 4 ∨ k = 5) ∧ v = 2) := by
      rcases Classical.em (v = want k ∨ ((k = 4 ∨ k = 5) ∧ v = 2)) with h | h
      ·exact h
      ·rw [if_neg h] at hz; split at hz <;> cases hz
     clear hz hv hcc HF
     have hlt7 : (k : Int) < 7 := by omega
     have hkn' : ¬ (n : Int) ≤ (k : Int) := by omega
     by_cases h1 : v = want k
     ·have q1 : ((v.toNat : Int) == ((want k).toNat : Int)) = true := by simpa using hvw.1 h1
      generalize ((want k).toNat : Int) = y at r2 q1
      generalize (v.toNat : Int) = x at r1 q1
      clear hvw hv2 hor h1
      go_wp2_with fail
      go_quiet (fail)
      clear r1 r2
      go_wp2
      go_roundw
      case rel => exact ⟨k + 1, m + nq, by omega, by omega, by go_num, HN.out, by rw [HW.out, World.drewN_drewN]⟩
      case measure => simp [intOf]; omega
     ·have q1 : ((v.toNat : Int) == ((want k).toNat : Int)) = false := by simpa using fun e => h1 (hvw.2 e)
      have h2 : (k = 4 ∨ k = 5) ∧ v = 2 := hor.resolve_left h1
      have q4 : (v.toNat : Int) = 2 := hv2.1 h2.2
      have h45 := h2.1
      generalize ((want k).toNat : Int) = y at r2 q1
      generalize (v.toNat : Int) = x at r1 q1 q4
      subst q4
      clear hvw hv2 hor h1 h2
      by_cases h4 : k = 4
      ·have q2 : ((k : Int) == 4) = true := by simp [h4]
       clear h4 h45
       go_wp2_with fail
       go_quiet (fail)
       clear r1 r2
       go_wp2
       go_roundw
       case rel => exact ⟨k + 1, m + nq, by omega, by omega, by go_num, HN.out, by rw [HW.out, World.drewN_drewN]⟩
       case measure => simp [intOf]; omega
      ·have q2 : ((k : Int) == 4) = false := by simp; omega
       have q3 : ((k : Int) == 5) = true := by simp; omega
       clear h4 h45
       go_wp2_with fail
       go_quiet (fail)
       clear r1 r2
       go_wp2
       go_roundw
       case rel => exact ⟨k + 1, m + nq, by omega, by omega, by go_num, HN.out, by rw [HW.out, World.drewN_drewN]⟩
       case measure => simp [intOf]; omega
    ·have hno : ¬ (v = want k ∨ ((k = 4 ∨ k = 5) ∧ v = 2)) := fun h => hz (by rw [HF.out, if_pos h])
     have HB : ∀ f, faultN k v = f → 0 < f → Told l f k := fun f e h0 => Told.bad HCL.out hlt hkl' (by rw [hv, e]) h0
     have hfv := HF.out
     rw [if_neg hno] at hfv
     have q1 : ((v.toNat : Int) == ((want k).toNat : Int)) = false := by simpa using fun e => hno (.inl (hvw.2 e))
     have hq4 : (k = 4 ∨ k = 5) → ((v.toNat : Int) == 2) = false := fun h45 => by simpa using fun e => hno (.inr ⟨h45, hv2.2 e⟩)
     clear hz hcc HF hv hvw hv2 hno
     have hlt7 : (k : Int) < 7 := by omega
     have hkn' : ¬ (n : Int) ≤ (k : Int) := by omega
     by_cases h4 : k < 4
     ·have HT : Hid (Told l 3 k) := HB 3 (by rw [hfv, if_pos h4]) (by omega)
      have q2 : ((k : Int) == 4) = false := by simp; omega
      have q3 : ((k : Int) == 5) = false := by simp; omega
      generalize ((want k).toNat : Int) = y at r2 q1
      generalize (v.toNat : Int) = x at r1 q1
      clear hfv HB hq4
      go_wp2_with fail
      go_quiet (fail)
      clear r1 r2
      rw [HW.out, World.drewN_drewN]
      go_wp2
      exact known_ret rfl rfl rfl (by rw [idOf, if_neg (by decide)]; exact (set4 (Held.new3 _ _ _ _ _ _ _ _ _) (Grow.new3 _ _ _ _ _) (Nat.le_refl _) _ _ _ _).1) HT.out (set4 (Held.new3 _ _ _ _ _ _ _ _ _) (Grow.new3 _ _ _ _ _) (Nat.le_refl _) _ _ _ _).2
     ·have HT : Hid (Told l 4 k) := HB 4 (by rw [hfv, if_neg h4]) (by omega)
      clear hfv HB
      by_cases h45 : k = 4
      ·have q2 : ((k : Int) == 4) = true := by simp; omega
       have q4 := hq4 (.inl h45)
       generalize ((want k).toNat : Int) = y at r2 q1
       generalize (v.toNat : Int) = x at r1 q1 q4
       clear hq4 h45
       go_wp2_with fail
       go_quiet (fail)
       clear r1 r2
       rw [HW.out, World.drewN_drewN]
       go_wp2
       exact known_ret rfl rfl rfl (by rw [idOf, if_neg (by decide)]; exact (set4 (Held.new3 _ _ _ _ _ _ _ _ _) (Grow.new3 _ _ _ _ _) (Nat.le_refl _) _ _ _ _).1) HT.out (set4 (Held.new3 _ _ _ _ _ _ _ _ _) (Grow.new3 _ _ _ _ _) (Nat.le_refl _) _ _ _ _).2
      ·have q2 : ((k : Int) == 4) = false := by simp; omega
       by_cases h5 : k = 5
       ·have q3 : ((k : Int) == 5) = true := by simp; omega
        have q4 := hq4 (.inr h5)
        generalize ((want k).toNat : Int) = y at r2 q1
        generalize (v.toNat : Int) = x at r1 q1 q4
        clear hq4 h45 h5
        go_wp2_with fail
        go_quiet (fail)
        clear r1 r2
        rw [HW.out, World.drewN_drewN]
        go_wp2
        exact known_ret rfl rfl rfl (by rw [idOf, if_neg (by decide)]; exact (set4 (Held.new3 _ _ _ _ _ _ _ _ _) (Grow.new3 _ _ _ _ _) (Nat.le_refl _) _ _ _ _).1) HT.out (set4 (Held.new3 _ _ _ _ _ _ _ _ _) (Grow.new3 _ _ _ _ _) (Nat.le_refl _) _ _ _ _).2
       ·have q3 : ((k : Int) == 5) = false := by simp; omega
        generalize ((want k).toNat : Int) = y at r2 q1
        generalize (v.toNat : Int) = x at r1 q1
        clear hq4 h45 h5
        go_wp2_with fail
        go_quiet (fail)
        clear r1 r2
        rw [HW.out, World.drewN_drewN]
        go_wp2
        exact known_ret rfl rfl rfl (by rw [idOf, if_neg (by decide)]; exact (set4 (Held.new3 _ _ _ _ _ _ _ _ _) (Grow.new3 _ _ _ _ _) (Nat.le_refl _) _ _ _ _).1) HT.out (set4 (Held.new3 _ _ _ _ _ _ _ _ _) (Grow.new3 _ _ _ _ _) (Nat.le_refl _) _ _ _ _).2
   ·have HT : Hid (Told l 2 k) := by
     have e := hn.out
     exact .inr (.inl ⟨rfl, by omega, fun j hj _ => HCL.out j hj (by omega), by omega⟩)
    rw [HW.out]
    go_wp2
    exact known_ret rfl rfl rfl (by rw [idOf, if_neg (by decide)]; exact (set4 (Held.new3 _ _ _ _ _ _ _ _ _) (Grow.new3 _ _ _ _ _) (Nat.le_refl _) _ _ _ _).1) HT.out (set4 (Held.new3 _ _ _ _ _ _ _ _ _) (Grow.new3 _ _ _ _ _) (Nat.le_refl _) _ _ _ _).2
  ·have HC7 : Hid (Clean l 7) := fun j hj h => HCL.out j hj (by omega)
   rw [HW.out]
   by_cases h16 : n < 16
   ·have HT : Hid (Told l 2 n) := by
     have e := hn.out
     exact .inr (.inl ⟨rfl, e, HC7.out, by omega⟩)
    go_wp2
    exact known_ret rfl rfl rfl (by rw [idOf, if_neg (by decide)]; exact (set4 (Held.new3 _ _ _ _ _ _ _ _ _) (Grow.new3 _ _ _ _ _) (Nat.le_refl _) _ _ _ _).1) HT.out (set4 (Held.new3 _ _ _ _ _ _ _ _ _) (Grow.new3 _ _ _ _ _) (Nat.le_refl _) _ _ _ _).2
   ·have HT : Hid (Told l 0 0) := .inl ⟨rfl, rfl, HC7.out, by have := hn.out; omega⟩
    have hl := hn.out
    obtain ⟨b, off, rfl, hb, hcc⟩ := HR.out.pos (by omega)
    obtain ⟨v4, e4⟩ : ∃ v, l[4] = v := ⟨_, rfl⟩
    obtain ⟨v5, e5⟩ : ∃ v, l[5] = v := ⟨_, rfl⟩
    obtain ⟨v7, e7⟩ : ∃ v, l[7] = v := ⟨_, rfl⟩
    obtain ⟨v8, e8⟩ : ∃ v, l[8] = v := ⟨_, rfl⟩
    have HC4' : Hid (w.cell? ⟨b, off + 4, none⟩ = some (.int .u8 (v4.toNat : Int))) := by rw [← e4]; exact hcc 4 (by omega)
    have HC5' : Hid (w.cell? ⟨b, off + 5, none⟩ = some (.int .u8 (v5.toNat : Int))) := by rw [← e5]; exact hcc 5 (by omega)
    have HC7' : Hid (w.cell? ⟨b, off + 7, none⟩ = some (.int .u8 (v7.toNat : Int))) := by rw [← e7]; exact hcc 7 (by omega)
    have HC8' : Hid (w.cell? ⟨b, off + 8, none⟩ = some (.int .u8 (v8.toNat : Int))) := by rw [← e8]; exact hcc 8 (by omega)
    have HI : Hid (idOf l 0 = .agg #[.bool ((v4.toNat : Int) == 2), .bool ((v5.toNat : Int) == 2), .int .u8 (v7.toNat : Int), .int .u8 (v8.toNat : Int)]) := by
     have g4 : l.getD 4 0 = v4 := by rw [List.getD_eq_getElem?_getD, List.getElem?_eq_getElem (by omega), e4]; rfl
     have g5 : l.getD 5 0 = v5 := by rw [List.getD_eq_getElem?_getD, List.getElem?_eq_getElem (by omega), e5]; rfl
     have g7 : l.getD 7 0 = v7 := by rw [List.getD_eq_getElem?_getD, List.getElem?_eq_getElem (by omega), e7]; rfl
     have g8 : l.getD 8 0 = v8 := by rw [List.getD_eq_getElem?_getD, List.getElem?_eq_getElem (by omega), e8]; rfl
     have t : ∀ v : UInt8, (v == 2) = ((v.toNat : Int) == 2) := fun v => by
      rw [Bool.eq_iff_iff, beq_iff_eq, beq_iff_eq]; exact u8_eq (n := 2) (by omega)
     rw [idOf, if_pos rfl, g4, g5, g7, g8, t, t]
     exact hid rfl
    clear e4 e5 e7 e8 hcc hl
    have HG : Hid (Grow w ((((w.alloc (.cells #[.bool false, .bool false, .int .u8 0, .int .u8 0] 25)).alloc ob).alloc (.cells (idC false false 0 0) 5)).drewN m).drew) := (Grow.new3 _ _ _ _ _).trans (Grow.of_drew _)
    go_wp2_with fail
    obtain ⟨S, HS⟩ : ∃ S : World → Prop, Hid (S = But w.heap.size ((((w.alloc (.cells #[.bool false, .bool false, .int .u8 0, .int .u8 0] 25)).alloc ob).alloc (.cells (idC false false 0 0) 5)).drewN m).drew) := ⟨_, hid rfl⟩
    refine wp_region_reads [0, 1, 2, 3, 4, 5, 6, 7, 8, 9, 10, 11, 12, 13, 14, 15] [16, 17, 18] S (by kernel_rfl) (by kernel_rfl) (by kernel_rfl) (by rw [HS.out]; exact But.refl _ _) ?_
    have c4 : ∀ W, S W → W.cell? ⟨b, off + 4, none⟩ = some (.int .u8 (v4.toNat : Int)) := fun W h => by
     rw [HS.out] at h
     rw [h _ (by simp; omega) (by have := HG.out.size; simp at this ⊢; omega), HG.out.cell hb]; exact HC4'.out
    have z4 : (4 : Int) < (n : Int) := by omega
    have c5 : ∀ W, S W → W.cell? ⟨b, off + 5, none⟩ = some (.int .u8 (v5.toNat : Int)) := fun W h => by
     rw [HS.out] at h
     rw [h _ (by simp; omega) (by have := HG.out.size; simp at this ⊢; omega), HG.out.cell hb]; exact HC5'.out
    have z5 : (5 : Int) < (n : Int) := by omega
    have c7 : ∀ W, S W → W.cell? ⟨b, off + 7, none⟩ = some (.int .u8 (v7.toNat : Int)) := fun W h => by
     rw [HS.out] at h
     rw [h _ (by simp; omega) (by have := HG.out.size; simp at this ⊢; omega), HG.out.cell hb]; exact HC7'.out
    have z7 : (7 : Int) < (n : Int) := by omega
    have c8 : ∀ W, S W → W.cell? ⟨b, off + 8, none⟩ = some (.int .u8 (v8.toNat : Int)) := fun W h => by
     rw [HS.out] at h
     rw [h _ (by simp; omega) (by have := HG.out.size; simp at this ⊢; omega), HG.out.cell hb]; exact HC8'.out
    have z8 : (8 : Int) < (n : Int) := by omega
    repeat (refine read_take rfl (by rfl) ?_ (fun W hG => ?_) ?_; rotate_left; (have k4 := c4 W hG; have k5 := c5 W hG; have k7 := c7 W hG; have k8 := c8 W hG; go_simp; rfl); simp only [Act.put, List.setIfInBounds_toArray, List.set_cons_zero, List.set_cons_succ])
    clear c4 c5 c7 c8 z4 z5 z7 z8
    refine read_done ?_
    refine tail_op rfl (by rfl) (fun K hK => ?_)
    go_simp
    refine hK _ _ (by rw [HS.out]; exact ((((But.heap rfl).set _ _).set _ _).set _ _).set _ _) ?_
    clear hK K
    refine tail_op rfl (by rfl) (fun K hK => ?_)
    go_simp
    refine hK _ _ (by rw [HS.out]; exact ((((But.heap rfl).set _ _).set _ _).set _ _).set _ _) ?_
    clear hK K
    refine tail_op rfl (by rfl) (fun K hK => ?_)
    go_simp
    refine hK _ _ (by rw [HS.out]; exact ((((But.heap rfl).set _ _).set _ _).set _ _).set _ _) ?_
    clear hK K
    refine tail_done ?_
    go_wp2
    exact known_ret rfl rfl rfl (by rw [HI.out]; exact (set4 (Held.new3 _ _ _ _ _ _ _ _ _) (Grow.new3 _ _ _ _ _) (Nat.le_refl _) _ _ _ _).1) HT.out (set4 (Held.new3 _ _ _ _ _ _ _ _ _) (Grow.new3 _ _ _ _ _) (Nat.le_refl _) _ _ _ _).2
theorem told_nil : Told [] 2 0 := .inr (.inl ⟨rfl, rfl, fun _ h => absurd h (Nat.not_lt_zero _), by decide⟩)
theorem clean_of {l : List UInt8} {wide big : Bool} {o a : UInt8} (h : ∀ j (hj : j < l.length), j < 7 → l[j] = (idL wide big o a).getD j 0) : Clean l 7 := fun j hj hlt => by
 rw [h j hj hlt]
 match j, hlt with
 | 0, _ => simp [idL, faultN]
 | 1, _ => simp [idL, faultN]
 | 2, _ => simp [idL, faultN]
 | 3, _ => simp [idL, faultN]
 | 4, _ => cases wide <;> simp [idL, faultN, two]
 | 5, _ => cases big <;> simp [idL, faultN, two]
 | 6, _ => simp [idL, faultN]
theorem told_idL (wide big : Bool) (o a : UInt8) : Told (idL wide big o a) 0 0 :=
 .inl ⟨rfl, rfl, clean_of fun j hj _ => by rw [List.getD_eq_getElem?_getD, List.getElem?_eq_getElem hj]; rfl, by simp [idL]⟩
theorem idOf_idL (wide big : Bool) (o a : UInt8) : idOf (idL wide big o a) 0 = idV wide big o a := by
 cases wide <;> cases big <;> rfl
theorem Err.grow {w w' : World} {e : Value} {c p : Nat} (h : Err w e c p) (hg : Grow w w') : Err w' e c p := by
 rcases h with h | ⟨h0, b, h1, h2, h3, h4⟩
 ·exact .inl h
 ·exact .inr ⟨h0, b, h1, Nat.lt_of_lt_of_le h2 hg.size, by rw [hg.cell h2]; exact h3, by rw [hg.cell h2]; exact h4⟩
theorem Err.nil {w : World} {e : Value} {p : Nat} (h : Err w e 0 p) : e = .nilIface := by
 rcases h with h | ⟨h0, _⟩
 ·exact h.2.2
 ·omega
theorem RB.put (w : World) (ob : Obj) (wide big : Bool) (o a : UInt8) (t : TypeId) : RB ((w.alloc ob).alloc (.cells (idC wide big o a) t)) (w.heap.size + 2) (some ⟨w.heap.size + 1, 0, none⟩) 16 16 (idL wide big o a) := by
 have h := RB.lit (w.alloc ob) t (idL wide big o a) (by simp [idL, maxLen])
 simpa [idC, idL] using h
theorem faultN_le (k : Nat) (v : UInt8) : faultN k v ≤ 4 := by
 unfold faultN
 split <;> split <;> first | omega | (split <;> omega)
theorem Told.le {l : List UInt8} {c p : Nat} (h : Told l c p) : c ≤ 4 ∧ p ≤ l.length := by
 rcases h with ⟨rfl, rfl, _⟩ | ⟨rfl, rfl, _⟩ | ⟨_, _, _, h1, rfl⟩
 ·omega
 ·omega
 ·exact ⟨faultN_le _ _, by omega⟩
theorem idOf_agg (l : List UInt8) (c : Nat) : ∃ (P Q : Bool) (R S : Int), idOf l c = .agg #[.bool P, .bool Q, .int .u8 R, .int .u8 S] := by
 unfold idOf
 split <;> exact ⟨_, _, _, _, rfl⟩
theorem four (w : World) (a b c d : Value) (t : TypeId) : ∀ W, Grow (w.alloc (.cells #[a, b, c, d] t)) W →
  W.cell? ⟨w.heap.size, 0, none⟩ = some a ∧ W.cell? ⟨w.heap.size, 1, none⟩ = some b ∧ W.cell? ⟨w.heap.size, 2, none⟩ = some c ∧ W.cell? ⟨w.heap.size, 3, none⟩ = some d := fun W h => by
 refine ⟨?_, ?_, ?_, ?_⟩ <;> rw [Below.cell h (by simp)] <;> simp
def Own (w : World) (g : Nat) (l : List UInt8) : Prop := w.heap[g]? = some (.cells (l.map byt).toArray 5 (0, 0))
theorem Own.lt {w : World} {g : Nat} {l : List UInt8} (h : Own w g l) : g < w.heap.size := by
 rcases Nat.lt_or_ge g w.heap.size with h1 | h1
 ·exact h1
 ·rw [Own, Array.getElem?_eq_none h1] at h; cases h
theorem Own.grow {w w' : World} {g : Nat} {l : List UInt8} (h : Own w g l) (hb : Grow w w') : Own w' g l := by
 rw [Own, hb.block g h.lt]; exact h
theorem Own.at {w : World} {g : Nat} {l : List UInt8} (h : Own w g l) (j : Nat) (hj : j < l.length) : w.cell? ⟨g, j, none⟩ = some (.int .u8 (l[j].toNat : Int)) := by
 rw [Joins.cell_of_block h]; simp [hj, byt]
theorem Own.rb {w : World} {g n : Nat} {l : List UInt8} (h : Own w g l) (hn : n = l.length) (hm : n ≤ maxLen) : RB w w.heap.size (some ⟨g, 0, none⟩) n n l :=
 ⟨hn, Nat.le_refl _, hm, fun _ => ⟨g, 0, rfl, h.lt, fun j hj => by rw [Nat.zero_add]; exact h.at j hj⟩⟩
theorem Own.set {w : World} {g : Nat} {l : List UInt8} (h : Own w g l) (k : Nat) (v : UInt8) : Own (w.setCell ⟨g, k, none⟩ (.int .u8 (v.toNat : Int))) g (l.set k v) := by
 rw [Own, Joins.block_setCell h]
 simp [byt, List.map_set]
theorem Own.put (w : World) (ob : Obj) (wide big : Bool) (o a : UInt8) : Own ((w.alloc ob).alloc (.cells (idC wide big o a) 5)) (w.heap.size + 1) (idL wide big o a) := by
 have h := heap_alloc_new (w.alloc ob) (.cells (idC wide big o a) 5)
 simpa [Own, idC] using h
theorem four_after {w W : World} {b : Nat} {x y z t : Value} (h : w.cell? ⟨b, 0, none⟩ = some x ∧ w.cell? ⟨b, 1, none⟩ = some y ∧ w.cell? ⟨b, 2, none⟩ = some z ∧ w.cell? ⟨b, 3, none⟩ = some t) (hb : Below (b + 1) w W) :
  W.cell? ⟨b, 0, none⟩ = some x ∧ W.cell? ⟨b, 1, none⟩ = some y ∧ W.cell? ⟨b, 2, none⟩ = some z ∧ W.cell? ⟨b, 3, none⟩ = some t := by
 have e : ∀ i, W.cell? ⟨b, i, none⟩ = w.cell? ⟨b, i, none⟩ := fun i => hb.cell (Nat.lt_succ_self b)
 rw [e, e, e, e]; exact h
theorem Err.box (w : World) (c p : Nat) (t : TypeId) (h : 0 < c) : Err (w.alloc (.cells #[.int .i64 (p : Int), .int .i64 (c : Int)] t)) (.iface 107 (.pointer (some ⟨w.heap.size, 0, none⟩))) c p :=
 .inr ⟨h, w.heap.size, rfl, by simp, by simp, by simp⟩
structure Hd where
 wide : Bool
 big : Bool
 o : UInt8
 a : UInt8
 ty : Nat
 ma : Nat
 en : Nat
 ph : Nat
 sh : Nat
 fl : Nat
 pn : Nat
 sn : Nat
 st : Nat
structure Hd.Ok (h : Hd) : Prop where
 ty : h.ty < 65536
 ma : h.ma < 65536
 en : h.en < 18446744073709551616
 ph : h.ph < 18446744073709551616
 sh : h.sh < 18446744073709551616
 fl : h.fl < 4294967296
 pn : h.pn < 65536
 sn : h.sn < 65536
 st : h.st < 65536
def Hd.C (h : Hd) : Array Value := #[.bool h.wide, .bool h.big, .int .u8 (h.o.toNat : Int), .int .u8 (h.a.toNat : Int), .int .u16 (h.ty : Int), .int .u16 (h.ma : Int), .int .u64 (h.en : Int), .int .u64 (h.ph : Int), .int .u64 (h.sh : Int), .int .u32 (h.fl : Int), .int .u16 (h.pn : Int), .int .u16 (h.sn : Int), .int .u16 (h.st : Int)]
def Hd.V (h : Hd) : Value := .agg h.C
def hd0 : Hd := ⟨false, false, 0, 0, 0, 0, 0, 0, 0, 0, 0, 0, 0⟩
def hRow (wide : Bool) : List Nat := [2, 2, 4, byWide wide 4 8, byWide wide 4 8, byWide wide 4 8, 4, 2, 2, 2, 2, 2, 2]
def Hd.N (h : Hd) : List Nat := [h.ty, h.ma, 1, h.en, h.ph, h.sh, h.fl, hSize h.wide, ifSome ((h.pn : Int) != 0) (byWide h.wide 32 56), h.pn, ifSome ((h.sh : Int) != 0) (byWide h.wide 40 64), h.sn, h.st]
theorem Hd.one (h : Hd) : h.C.all (·.oneCell') = true := by simp [Hd.C, Value.oneCell']
theorem byClass_any (wide big : Bool) (x y : Nat) (w : World) : Calls Tryz.prog 110 #[.agg #[.bool wide, .bool big], .int .i64 x, .int .i64 y] w fun e w' => e = .returned (.int .i64 (byWide wide x y : Nat)) ∧ Grow w w' := by
 cases wide
 ·go_enter Tryz.func110, Tryz.ntmps110
  go_wp2
  go_ret
  exact ⟨rfl, Grow.of_alloc _ _⟩
 ·go_enter Tryz.func110, Tryz.ntmps110
  go_wp2
  go_ret
  exact ⟨rfl, Grow.of_alloc _ _⟩
theorem hSize_any (wide big : Bool) (w : World) : Calls Tryz.prog 59 #[.agg #[.bool wide, .bool big]] w fun e w' => e = .returned (.int .i64 (hSize wide : Nat)) ∧ Grow w w' := by
 go_enter Tryz.func59, Tryz.ntmps59
 go_wp2_with fail
 refine (byClass_any wide big 52 64 _).mono ?_
 rintro e w1 ⟨rfl, hg⟩
 have HG := hid ((Grow.of_alloc _ _).trans hg)
 clear hg
 go_wp2
 go_ret
 exact ⟨rfl, HG.out⟩
theorem sizeIf_any (b : Bool) (n : Nat) (w : World) (hn : n < 1000) : Calls Tryz.prog 112 #[.bool b, .int .i64 n] w fun e w' => e = .returned (.int .u64 (ifSome b n : Nat)) ∧ w = w' := by
 have hw : IntKind.u64.wrap (n : Int) = (n : Int) := by rw [IntKind.wrap_u64]; omega
 cases b
 ·go_enter Tryz.func112, Tryz.ntmps112
  go_wp2
  go_ret
  exact ⟨rfl, rfl⟩
 ·go_enter Tryz.func112, Tryz.ntmps112
  go_wp2
  go_ret
  exact ⟨rfl, rfl⟩
theorem widths_any (wide big : Bool) (w : World) : Calls Tryz.prog 93 #[.agg #[.bool wide, .bool big]] w fun e w' => e = .returned (.agg (i64s (hRow wide))) ∧ Grow w w' := by
 go_enter Tryz.func93, Tryz.ntmps93
 go_wp2_with fail
 refine (byClass_any wide big 4 8 _).mono ?_
 rintro e w1 ⟨rfl, hg⟩
 have HG := hid (((Grow.of_alloc _ _).trans (Grow.of_alloc _ _)).trans hg)
 have hb := (Blk.new (w.alloc (.cells #[.bool wide, .bool big] 23)) 134 #[.int .i64 0, .int .i64 0, .int .i64 0, .int .i64 0, .int .i64 0, .int .i64 0, .int .i64 0, .int .i64 0, .int .i64 0, .int .i64 0, .int .i64 0, .int .i64 0, .int .i64 0]).grow hg
 clear hg
 rw [show (w.alloc (.cells #[.bool wide, .bool big] 23)).heap.size = w.heap.size + 1 by simp] at hb
 have HL : Hid (w.heap.size ≤ w.heap.size + 1) := Nat.le_succ _
 generalize w.heap.size + 1 = g at hb HL ⊢
 have HB := hid hb
 have HS : Hid (w.heap.size ≤ g) := HL.out
 clear hb
 go_wp2_with (refine wpList_store_row rfl 134 (.tmp 2) (.tmp 9) rfl g (i64s (hRow wide)) rfl rfl _ _ HB.out (by kernel_rfl) rfl (one_i64s _) ?_)
 refine bodyPost_ret (results_cell_row (cs := i64s (hRow wide)) rfl _ _ g _ (0, 0) _ rfl (HB.out.set _) Tryz.underlying134 rfl (by kernel_rfl)) rfl ?_
 exact ⟨rfl, Grow.set HG.out HS.out _⟩
set_option maxRecDepth 100000
theorem numbers_any (h : Hd) (ok : h.Ok) (w : World) : Calls Tryz.prog 62 #[h.V] w fun e w' => e = .returned (.agg (u64s h.N)) ∧ Grow w w' := by
 obtain ⟨wide, big, o, a, ty, ma, en, ph, sh, fl, pn, sn, st⟩ := h
 obtain ⟨k1, k2, k3, k4, k5, k6, k7, k8, k9⟩ := ok
 unfold Hd.V Hd.C
 simp only [] at *
 generalize (o.toNat : Int) = ov
 generalize (a.toNat : Int) = av
 go_enter Tryz.func62, Tryz.ntmps62
 go_wp2_with fail
 generalize hW : World.alloc _ _ = W0
 obtain ⟨b1, b2, b3, hg0⟩ := blk3 hW
 clear hW
 refine wp_region_leap (leap_bar (w.heap.size + 1)) [(0, true), (1, true), (2, true), (3, true), (4, true), (5, true), (6, true), (7, true), (8, true), (9, true), (10, true), (11, true), (12, true), (13, true), (14, true), (15, true), (18, true), (19, true), (20, true), (21, true), (24, true), (25, true), (26, true), (27, true), (28, true), (29, true), (30, true), (33, true), (34, true), (35, true), (36, true), (37, true), (38, true), (16, false), (17, true), (22, false), (23, false), (31, false), (32, false), (39, true), (40, false)] (by kernel_rfl) (by kernel_rfl) (by kernel_rfl) ?_
 have HG : Hid (Grow w W0.drew) := hg0.trans (Grow.of_drew _)
 have b1' := b1.drew
 have b2' := b2.drew
 have b3' := b3.drew
 generalize W0.drew = W1 at b1' b2' b3' HG ⊢
 have HX : Hid (∀ W, Bar (w.heap.size + 1) W1 W → _ ∧ _) := fun W hG => ⟨(b1'.bar hG (by omega)).c13, (b3'.bar hG (by omega)).c2⟩
 have HB := hid b2'
 clear b1 b2 b3 b1' b2' b3' hg0
 have z1 : IntKind.u64.wrap (ty : Int) = (ty : Int) := by rw [IntKind.wrap_u64]; omega
 have z2 : IntKind.u64.wrap (ma : Int) = (ma : Int) := by rw [IntKind.wrap_u64]; omega
 have z3 : IntKind.u64.wrap (fl : Int) = (fl : Int) := by rw [IntKind.wrap_u64]; omega
 have z4 : IntKind.u64.wrap (pn : Int) = (pn : Int) := by rw [IntKind.wrap_u64]; omega
 have z5 : IntKind.u64.wrap (sn : Int) = (sn : Int) := by rw [IntKind.wrap_u64]; omega
 have z6 : IntKind.u64.wrap (st : Int) = (st : Int) := by rw [IntKind.wrap_u64]; omega
 repeat (refine chain_take rfl (by rfl) ?_ (fun W hG => ?_) ?_; rotate_left; (obtain ⟨⟨x0, x1, x2, x3, x4, x5, x6, x7, x8, x9, x10, x11, x12⟩, y0, y1⟩ := HX.out W hG; go_simp; rfl); simp only [Act.put, List.setIfInBounds_toArray, List.set_cons_zero, List.set_cons_succ])
 clear HX z1 z2 z3 z4 z5 z6
 refine chain_only rfl (by rfl) (fun K hK => ?_)
 go_simp
 refine (hSize_any wide big _).mono ?_
 rintro e W2 ⟨rfl, hg⟩
 refine hK _ _ (Bar.of_grow hg) ?_
 clear hK K
 replace HG : Hid (Grow w W2) := HG.out.trans hg
 replace HB := hid (HB.out.grow hg)
 clear hg
 have s1 : hSize wide < 1000 := by cases wide <;> decide
 have z1 : IntKind.u64.wrap (hSize wide : Int) = (hSize wide : Int) := by rw [IntKind.wrap_u64]; omega
 repeat (refine chain_take rfl (by rfl) ?_ (fun W hG => ?_) ?_; rotate_left; (go_simp; rfl); simp only [Act.put, List.setIfInBounds_toArray, List.set_cons_zero, List.set_cons_succ])
 clear z1 s1
 refine chain_only rfl (by rfl) (fun K hK => ?_)
 go_simp
 refine (byClass_any wide big 32 56 _).mono ?_
 rintro e W3 ⟨rfl, hg⟩
 refine hK _ _ (Bar.of_grow hg) ?_
 clear hK K
 replace HG : Hid (Grow w W3) := HG.out.trans hg
 replace HB := hid (HB.out.grow hg)
 clear hg
 refine chain_only rfl (by rfl) (fun K hK => ?_)
 go_simp
 refine (sizeIf_any _ (byWide wide 32 56) _ (by cases wide <;> decide)).mono ?_
 rintro e W4 ⟨rfl, rfl⟩
 refine hK _ _ ((leap_bar _).refl _) ?_
 clear hK K
 refine chain_only rfl (by rfl) (fun K hK => ?_)
 go_simp
 refine (byClass_any wide big 40 64 _).mono ?_
 rintro e W4 ⟨rfl, hg⟩
 refine hK _ _ (Bar.of_grow hg) ?_
 clear hK K
 replace HG : Hid (Grow w W4) := HG.out.trans hg
 replace HB := hid (HB.out.grow hg)
 clear hg
 refine chain_only rfl (by rfl) (fun K hK => ?_)
 go_simp
 refine (sizeIf_any _ (byWide wide 40 64) _ (by cases wide <;> decide)).mono ?_
 rintro e W5 ⟨rfl, rfl⟩
 refine hK _ _ ((leap_bar _).refl _) ?_
 clear hK K
 repeat (refine chain_take rfl (by rfl) ?_ (fun W hG => ?_) ?_; rotate_left; (go_simp; rfl); simp only [Act.put, List.setIfInBounds_toArray, List.set_cons_zero, List.set_cons_succ])
 refine chain_only rfl (by rfl) (fun K hK => ?_)
 refine wp_store_row 133 (.tmp 2) (.tmp 46) rfl (w.heap.size + 1) (u64s (Hd.N ⟨wide, big, o, a, ty, ma, en, ph, sh, fl, pn, sn, st⟩)) rfl rfl _ _ HB.out (by kernel_rfl) rfl (one_u64s _) ?_
 refine hK _ _ (Bar.set _ _ _) ?_
 clear hK K
 refine chain_done ?_
 have HB5 := hid (HB.out.set (u64s (Hd.N ⟨wide, big, o, a, ty, ma, en, ph, sh, fl, pn, sn, st⟩)))
 have HG5 : Hid (Grow w _) := Grow.set HG.out (Nat.le_succ _) (u64s (Hd.N ⟨wide, big, o, a, ty, ma, en, ph, sh, fl, pn, sn, st⟩))
 generalize W4.setRow (w.heap.size + 1) (u64s (Hd.N ⟨wide, big, o, a, ty, ma, en, ph, sh, fl, pn, sn, st⟩)) = W6 at HB5 HG5 ⊢
 generalize hR : u64s (Hd.N ⟨wide, big, o, a, ty, ma, en, ph, sh, fl, pn, sn, st⟩) = R at HB5 ⊢
 have HR := hid hR
 clear HB HG hR
 go_wp2
 refine bodyPost_ret (results_cell_row (cs := R) rfl _ _ (w.heap.size + 1) _ (0, 0) _ rfl HB5.out Tryz.underlying133 rfl (by kernel_rfl)) rfl ?_
 exact ⟨by rw [HR.out], HG5.out⟩
theorem header_any (wide big : Bool) (o a : UInt8) (x0 x1 x2 x3 x4 x5 x6 x7 x8 x9 x10 x11 x12 : Nat) (w : World)
  (k0 : x0 < 65536) (k1 : x1 < 65536) (k6 : x6 < 4294967296) (k9 : x9 < 65536) (k11 : x11 < 65536) (k12 : x12 < 65536) :
  Calls Tryz.prog 61 #[idV wide big o a, .agg (u64s [x0, x1, x2, x3, x4, x5, x6, x7, x8, x9, x10, x11, x12])] w fun e w' =>
   e = .returned (Hd.V ⟨wide, big, o, a, x0, x1, x3, x4, x5, x6, x9, x11, x12⟩) ∧ Grow w w' := by
 have z0 : IntKind.u16.wrap (x0 : Int) = (x0 : Int) := by rw [IntKind.wrap_u16]; omega
 have z1 : IntKind.u16.wrap (x1 : Int) = (x1 : Int) := by rw [IntKind.wrap_u16]; omega
 have z6 : IntKind.u32.wrap (x6 : Int) = (x6 : Int) := by rw [IntKind.wrap_u32]; omega
 have z9 : IntKind.u16.wrap (x9 : Int) = (x9 : Int) := by rw [IntKind.wrap_u16]; omega
 have z11 : IntKind.u16.wrap (x11 : Int) = (x11 : Int) := by rw [IntKind.wrap_u16]; omega
 have z12 : IntKind.u16.wrap (x12 : Int) = (x12 : Int) := by rw [IntKind.wrap_u16]; omega
 clear k0 k1 k6 k9 k11 k12
 obtain ⟨R, hR⟩ : ∃ R, R = Hd.C ⟨wide, big, o, a, x0, x1, x3, x4, x5, x6, x9, x11, x12⟩ := ⟨_, rfl⟩
 have HR := hid hR
 have h1 := Hd.one ⟨wide, big, o, a, x0, x1, x3, x4, x5, x6, x9, x11, x12⟩
 rw [← hR] at h1
 have H1 := hid h1
 unfold Hd.C at hR
 simp only [] at hR
 unfold Hd.V
 rw [← HR.out]
 unfold idV u64s
 simp only [List.map_cons, List.map_nil]
 generalize (o.toNat : Int) = ov at hR ⊢
 generalize (a.toNat : Int) = av at hR ⊢
 have HR2 := hid hR
 clear h1 hR HR
 go_enter Tryz.func61, Tryz.ntmps61
 go_wp2_with (refine wpList_store_row rfl 69 (.tmp 4) (.tmp 30) rfl (w.heap.size + 1 + 1) R rfl (by rw [HR2.out]; rfl) _ _ (blk3 rfl).2.2.1 (by rw [HR2.out]; kernel_rfl) (by rw [HR2.out]; rfl) H1.out ?_)
 refine bodyPost_ret (results_cell_row (cs := R) rfl _ _ (w.heap.size + 1 + 1) _ (0, 0) _ rfl ((blk3 rfl).2.2.1.set R) Tryz.underlying69 rfl (by rw [HR2.out]; kernel_rfl)) rfl ?_
 exact ⟨rfl, Grow.set (blk3 rfl).2.2.2 (by omega) R⟩
def mayAny (i : Nat) (pn sh : Nat) : Bool := (i == 8) && (pn == 0) || (i == 10) && (sh == 0)
theorem mayBeAny_any (h : Hd) (i : Nat) (w : World) : Calls Tryz.prog 63 #[.int .i64 i, h.V] w fun e w' => e = .returned (.bool (mayAny i h.pn h.sh)) ∧ Grow w w' := by
 obtain ⟨wide, big, o, a, ty, ma, en, ph, sh, fl, pn, sn, st⟩ := h
 unfold Hd.V Hd.C
 simp only []
 generalize (o.toNat : Int) = ov
 generalize (a.toNat : Int) = av
 have E : Hid (mayAny i pn sh = (((i : Int) == 8) && ((pn : Int) == 0) || ((i : Int) == 10) && ((sh : Int) == 0))) := by
  have h1 : ∀ x y : Nat, (x == y) = ((x : Int) == (y : Int)) := fun x y => by rw [Bool.eq_iff_iff, beq_iff_eq, beq_iff_eq]; omega
  unfold mayAny
  rw [h1, h1, h1, h1]
  exact hid rfl
 generalize mayAny i pn sh = r at E ⊢
 by_cases h8 : i = 8
 ·subst h8
  by_cases hp : pn = 0
  ·subst hp
   go_enter Tryz.func63, Tryz.ntmps63
   go_wp2
   go_ret
   exact ⟨by rw [E.out]; rfl, Grow.of_alloc _ _⟩
  ·have q : ((pn : Int) == 0) = false := by simp; omega
   rw [q] at E
   clear hp
   go_enter Tryz.func63, Tryz.ntmps63
   go_wp2
   go_ret
   exact ⟨by rw [E.out]; rfl, Grow.of_alloc _ _⟩
 ·have q8 : ((i : Int) == 8) = false := by simp; omega
  by_cases h10 : i = 10
  ·subst h10
   go_enter Tryz.func63, Tryz.ntmps63
   go_wp2
   go_ret
   exact ⟨by rw [E.out]; rfl, Grow.of_alloc _ _⟩
  ·have q10 : ((i : Int) == 10) = false := by simp; omega
   rw [q8, q10] at E
   clear h8 h10
   go_enter Tryz.func63, Tryz.ntmps63
   go_wp2
   go_ret
   exact ⟨by rw [E.out]; rfl, Grow.of_alloc _ _⟩
theorem shift_any (i n : Nat) (big : Bool) (w : World) (hi : i < n) (hn : n ≤ 8) : Calls Tryz.prog 135 #[.int .i64 i, .int .i64 n, .bool big] w fun e w' => e = .returned (.int .u64 (8 * (rank i n big : Nat) : Int)) ∧ w = w' := by
 cases big
 ·go_enter Tryz.func135, Tryz.ntmps135
  go_wp2
  go_ret
  exact ⟨ret_int (by simp [rank]), rfl⟩
 ·go_enter Tryz.func135, Tryz.ntmps135
  go_wp2
  go_ret
  exact ⟨ret_int (by simp [rank]; omega), rfl⟩
end Go.Proofs.YtlccbekalccahaaGreatDoor
