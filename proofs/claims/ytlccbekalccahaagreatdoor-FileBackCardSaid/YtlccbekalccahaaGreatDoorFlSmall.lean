/-
  The contracts of file.spot, hasNoBytes, isIn, places and countsOf.
-/
import Derived.Test.YtlccbekalccahaaGreatDoorFbG24
import Derived.Test.YtlccbekalccahaaGreatDoorFbG26
import Derived.Test.YtlccbekalccahaaGreatDoorFbG22
import Derived.Test.YtlccbekalccahaaGreatDoorFbG9
namespace Go.Proofs.YtlccbekalccahaaGreatDoor
open Go.RowKit
set_option maxRecDepth 100000
set_option linter.unusedVariables false

/-- An error with its place. -/
def Spt (w : World) (v : Value) (c p : Nat) : Prop := ∃ b, v = .iface 107 (.pointer (some ⟨b, 0, none⟩)) ∧ b < w.heap.size ∧ w.cell? ⟨b, 0, none⟩ = some (.int .i64 (p : Int)) ∧ w.cell? ⟨b, 1, none⟩ = some (.int .i64 (c : Int))
theorem Spt.err {w : World} {v : Value} {c p : Nat} (h : Spt w v c p) (hc : 0 < c) : Err w v c p := .inr ⟨hc, h⟩
theorem Spt.grow {w w' : World} {v : Value} {c p : Nat} (h : Spt w v c p) (hg : Grow w w') : Spt w' v c p := by
  obtain ⟨b, h1, h2, h3, h4⟩ := h
  exact ⟨b, h1, Nat.lt_of_lt_of_le h2 hg.size, by rw [hg.cell h2]; exact h3, by rw [hg.cell h2]; exact h4⟩
theorem fspot_any (p c : Nat) (w : World) : Calls Tryz.prog 24 #[.int .i64 (p : Int), .int .i64 (c : Int)] w fun e w' => ∃ b, e = .returned (.iface 107 (.pointer (some ⟨b, 0, none⟩))) ∧ Spt w' (.iface 107 (.pointer (some ⟨b, 0, none⟩))) c p ∧ Grow w w' := by
  go_enter Tryz.func24, Tryz.ntmps24
  go_wp2
  go_ret
  exact ⟨_, rfl, ⟨w.heap.size, rfl, by simp, by simp, by simp⟩, Grow.of_alloc _ _⟩
theorem fspot_4 (p : Nat) (w : World) : Calls Tryz.prog 24 #[.int .i64 (p : Int), .int .i64 4] w fun e w' => ∃ b, e = .returned (.iface 107 (.pointer (some ⟨b, 0, none⟩))) ∧ Spt w' (.iface 107 (.pointer (some ⟨b, 0, none⟩))) 4 p ∧ Grow w w' := fspot_any p 4 w
theorem fspot_5 (p : Nat) (w : World) : Calls Tryz.prog 24 #[.int .i64 (p : Int), .int .i64 5] w fun e w' => ∃ b, e = .returned (.iface 107 (.pointer (some ⟨b, 0, none⟩))) ∧ Spt w' (.iface 107 (.pointer (some ⟨b, 0, none⟩))) 5 p ∧ Grow w w' := fspot_any p 5 w
theorem fspot_8 (p : Nat) (w : World) : Calls Tryz.prog 24 #[.int .i64 (p : Int), .int .i64 8] w fun e w' => ∃ b, e = .returned (.iface 107 (.pointer (some ⟨b, 0, none⟩))) ∧ Spt w' (.iface 107 (.pointer (some ⟨b, 0, none⟩))) 8 p ∧ Grow w w' := fspot_any p 8 w
theorem num_0 (a b c d e : Value) (W : World) : (Instr.field 143 (.agg #[a, b, c, d, e]) 0).run Tryz.prog W = .ok a W := by kernel_rfl
theorem num_1 (a b c d e : Value) (W : World) : (Instr.field 143 (.agg #[a, b, c, d, e]) 1).run Tryz.prog W = .ok b W := by kernel_rfl
theorem num_2 (a b c d e : Value) (W : World) : (Instr.field 143 (.agg #[a, b, c, d, e]) 2).run Tryz.prog W = .ok c W := by kernel_rfl
theorem num_3 (a b c d e : Value) (W : World) : (Instr.field 143 (.agg #[a, b, c, d, e]) 3).run Tryz.prog W = .ok d W := by kernel_rfl
theorem num_4 (a b c d e : Value) (W : World) : (Instr.field 143 (.agg #[a, b, c, d, e]) 4).run Tryz.prog W = .ok e W := by kernel_rfl
/-- A Type without bytes. -/
def bare (ty : Nat) : Bool := decide (ty = 0) || decide (ty = 8)
theorem hasNo_any (ty : Nat) (w : World) : Calls Tryz.prog 71 #[.int .u32 (ty : Int)] w fun e w' => e = .returned (.bool (bare ty)) ∧ w = w' := by
  have E : Hid (bare ty = (((ty : Int) == 0) || ((ty : Int) == 8))) := Lib.hid (by
    unfold bare
    rw [Bool.eq_iff_iff]
    simp
    omega)
  generalize bare ty = R at E ⊢
  by_cases h0 : ((ty : Int) == 0) = true
  · rw [h0] at E
    go_enter Tryz.func71, Tryz.ntmps71
    go_wp2
    go_ret
    exact ⟨by rw [E.out]; rfl, rfl⟩
  · have h0' : ((ty : Int) == 0) = false := by simpa using h0
    rw [h0'] at E
    clear h0
    go_enter Tryz.func71, Tryz.ntmps71
    go_wp2
    go_ret
    exact ⟨ret_bool (by rw [E.out]; rfl), rfl⟩
theorem isIn_any (A : Option Addr) (n c p m : Nat) (w : World) (hn : n ≤ maxLen) : Calls Tryz.prog 70 #[.slice A n c, .int .u64 (p : Int), .int .u64 (m : Int)] w fun e w' => e = .returned (.bool (inB n p m)) ∧ w = w' := by
  unfold maxLen at hn
  have z : IntKind.u64.wrap (n : Int) = (n : Int) := by rw [IntKind.wrap_u64]; omega
  by_cases h0 : m = 0
  · have E : Hid (inB n p m = true) := Lib.hid (by unfold inB; simp [h0])
    generalize inB n p m = R at E ⊢
    have d : ((m : Int) == 0) = true := by simp [h0]
    clear h0
    go_enter Tryz.func70, Tryz.ntmps70
    go_wp2
    go_ret
    exact ⟨by rw [E.out]; rfl, rfl⟩
  · have E : Hid (wthn (p : Nat) (m : Nat) (n : Nat) = inB n p m) := Lib.hid (by unfold wthn inB; rw [Bool.eq_iff_iff]; simp; omega)
    generalize inB n p m = R at E ⊢
    have d : ((m : Int) == 0) = false := by simp [h0]
    clear h0
    go_enter Tryz.func70, Tryz.ntmps70
    go_wp2_with (go_at_call 113; refine (within_any _ _ _ _ (by omega) (by omega) (by omega)).mono ?_; rintro e w' ⟨rfl, rfl⟩; rw [E.out])
    go_ret
    exact ⟨rfl, rfl⟩
theorem places_any (wide big : Bool) (w : World) : Calls Tryz.prog 65 #[.agg #[.bool wide, .bool big]] w fun e w' => e = .returned (.agg #[.int .i64 (oPh wide : Nat), .int .i64 (oSh wide : Nat), .int .i64 (oPn wide : Nat), .int .i64 (oSn wide : Nat), .int .i64 (oSt wide : Nat)]) ∧ Grow w w' := by
  cases wide
  · go_enter Tryz.func65, Tryz.ntmps65
    go_wp2
    refine bodyPost_ret (results_cell_row rfl _ _ (w.heap.size + 1) _ _ (0, 0) _ rfl (blk2 rfl).2.1 Tryz.underlying143 rfl (by kernel_rfl)) rfl ?_
    exact ⟨rfl, (blk2 rfl).2.2⟩
  · go_enter Tryz.func65, Tryz.ntmps65
    go_wp2
    refine bodyPost_ret (results_cell_row rfl _ _ (w.heap.size + 1) _ _ (0, 0) _ rfl (blk2 rfl).2.1 Tryz.underlying143 rfl (by kernel_rfl)) rfl ?_
    exact ⟨rfl, (blk2 rfl).2.2⟩

set_option maxHeartbeats 4000000 in
theorem countsOf_any (h : Hd) (hok : h.Ok) (s : Sc) (sok : s.Ok) (w : World) : Calls Tryz.prog 66 #[h.V, s.V] w fun e w' => e = .returned (.agg #[.int .u64 ((if h.pn = 65535 then s.inf else h.pn : Nat) : Int), .int .u64 ((if h.sn = 0 then s.sz else h.sn : Nat) : Int), .int .u64 ((if h.st = 65535 then s.li else h.st : Nat) : Int)]) ∧ Grow w w' := by
  obtain ⟨k1, k2, k3, k4, k5, k6, k7, k8, k9⟩ := hok
  obtain ⟨s1, s2, s3, s4, s5, s6, s7, s8, s9, s10⟩ := sok
  obtain ⟨wide, big, o, a, ty, ma, en, ph, sh, fl, pn, sn, st⟩ := h
  obtain ⟨na, sty, sfl, ad, off, sz, li, inf, al, sen⟩ := s
  unfold Hd.V Hd.C Sc.V Sc.C
  simp only [] at *
  have z1 : IntKind.u64.wrap (pn : Int) = (pn : Int) := by rw [IntKind.wrap_u64]; omega
  have z2 : IntKind.u64.wrap (sn : Int) = (sn : Int) := by rw [IntKind.wrap_u64]; omega
  have z3 : IntKind.u64.wrap (st : Int) = (st : Int) := by rw [IntKind.wrap_u64]; omega
  have z4 : IntKind.u64.wrap (inf : Int) = (inf : Int) := by rw [IntKind.wrap_u64]; omega
  have z5 : IntKind.u64.wrap (li : Int) = (li : Int) := by rw [IntKind.wrap_u64]; omega
  clear k1 k2 k3 k4 k5 k6 k7 k8 k9 s1 s2 s3 s4 s5 s6 s7 s8 s9 s10
  obtain ⟨r1, e1⟩ : ∃ r, (if pn = 65535 then inf else pn : Nat) = r := ⟨_, rfl⟩
  obtain ⟨r2, e2⟩ : ∃ r, (if sn = 0 then sz else sn : Nat) = r := ⟨_, rfl⟩
  obtain ⟨r3, e3⟩ : ∃ r, (if st = 65535 then li else st : Nat) = r := ⟨_, rfl⟩
  rw [e1, e2, e3]
  by_cases h0 : pn = 65535
  · rw [if_pos h0] at e1
    have E1 := Lib.hid e1
    have d0 : ((pn : Int) == 65535) = true := by simp [h0]
    clear h0 e1
    by_cases h1 : sn = 0
    · rw [if_pos h1] at e2
      have E2 := Lib.hid e2
      have d1 : ((sn : Int) == 0) = true := by simp [h1]
      clear h1 e2
      by_cases h2 : st = 65535
      · rw [if_pos h2] at e3
        have E3 := Lib.hid e3
        have d2 : ((st : Int) == 65535) = true := by simp [h2]
        clear h2 e3
        go_enter Tryz.func66, Tryz.ntmps66
        go_wp2
        refine bodyPost_ret (results_cell_row rfl _ _ (w.heap.size + 1 + 1) _ _ (0, 0) _ rfl (blk4 rfl).2.2.1 Tryz.underlying86 rfl (by kernel_rfl)) rfl ?_
        exact ⟨by rw [← E1.out, ← E2.out, ← E3.out], (blk4 rfl).2.2.2.2⟩
      · rw [if_neg h2] at e3
        have E3 := Lib.hid e3
        have d2 : ((st : Int) == 65535) = false := by simp; omega
        clear h2 e3
        go_enter Tryz.func66, Tryz.ntmps66
        go_wp2
        refine bodyPost_ret (results_cell_row rfl _ _ (w.heap.size + 1 + 1) _ _ (0, 0) _ rfl (blk4 rfl).2.2.1 Tryz.underlying86 rfl (by kernel_rfl)) rfl ?_
        exact ⟨by rw [← E1.out, ← E2.out, ← E3.out], (blk4 rfl).2.2.2.2⟩
    · rw [if_neg h1] at e2
      have E2 := Lib.hid e2
      have d1 : ((sn : Int) == 0) = false := by simp; omega
      clear h1 e2
      by_cases h2 : st = 65535
      · rw [if_pos h2] at e3
        have E3 := Lib.hid e3
        have d2 : ((st : Int) == 65535) = true := by simp [h2]
        clear h2 e3
        go_enter Tryz.func66, Tryz.ntmps66
        go_wp2
        refine bodyPost_ret (results_cell_row rfl _ _ (w.heap.size + 1 + 1) _ _ (0, 0) _ rfl (blk4 rfl).2.2.1 Tryz.underlying86 rfl (by kernel_rfl)) rfl ?_
        exact ⟨by rw [← E1.out, ← E2.out, ← E3.out], (blk4 rfl).2.2.2.2⟩
      · rw [if_neg h2] at e3
        have E3 := Lib.hid e3
        have d2 : ((st : Int) == 65535) = false := by simp; omega
        clear h2 e3
        go_enter Tryz.func66, Tryz.ntmps66
        go_wp2
        refine bodyPost_ret (results_cell_row rfl _ _ (w.heap.size + 1 + 1) _ _ (0, 0) _ rfl (blk4 rfl).2.2.1 Tryz.underlying86 rfl (by kernel_rfl)) rfl ?_
        exact ⟨by rw [← E1.out, ← E2.out, ← E3.out], (blk4 rfl).2.2.2.2⟩
  · rw [if_neg h0] at e1
    have E1 := Lib.hid e1
    have d0 : ((pn : Int) == 65535) = false := by simp; omega
    clear h0 e1
    by_cases h1 : sn = 0
    · rw [if_pos h1] at e2
      have E2 := Lib.hid e2
      have d1 : ((sn : Int) == 0) = true := by simp [h1]
      clear h1 e2
      by_cases h2 : st = 65535
      · rw [if_pos h2] at e3
        have E3 := Lib.hid e3
        have d2 : ((st : Int) == 65535) = true := by simp [h2]
        clear h2 e3
        go_enter Tryz.func66, Tryz.ntmps66
        go_wp2
        refine bodyPost_ret (results_cell_row rfl _ _ (w.heap.size + 1 + 1) _ _ (0, 0) _ rfl (blk4 rfl).2.2.1 Tryz.underlying86 rfl (by kernel_rfl)) rfl ?_
        exact ⟨by rw [← E1.out, ← E2.out, ← E3.out], (blk4 rfl).2.2.2.2⟩
      · rw [if_neg h2] at e3
        have E3 := Lib.hid e3
        have d2 : ((st : Int) == 65535) = false := by simp; omega
        clear h2 e3
        go_enter Tryz.func66, Tryz.ntmps66
        go_wp2
        refine bodyPost_ret (results_cell_row rfl _ _ (w.heap.size + 1 + 1) _ _ (0, 0) _ rfl (blk4 rfl).2.2.1 Tryz.underlying86 rfl (by kernel_rfl)) rfl ?_
        exact ⟨by rw [← E1.out, ← E2.out, ← E3.out], (blk4 rfl).2.2.2.2⟩
    · rw [if_neg h1] at e2
      have E2 := Lib.hid e2
      have d1 : ((sn : Int) == 0) = false := by simp; omega
      clear h1 e2
      by_cases h2 : st = 65535
      · rw [if_pos h2] at e3
        have E3 := Lib.hid e3
        have d2 : ((st : Int) == 65535) = true := by simp [h2]
        clear h2 e3
        go_enter Tryz.func66, Tryz.ntmps66
        go_wp2
        refine bodyPost_ret (results_cell_row rfl _ _ (w.heap.size + 1 + 1) _ _ (0, 0) _ rfl (blk4 rfl).2.2.1 Tryz.underlying86 rfl (by kernel_rfl)) rfl ?_
        exact ⟨by rw [← E1.out, ← E2.out, ← E3.out], (blk4 rfl).2.2.2.2⟩
      · rw [if_neg h2] at e3
        have E3 := Lib.hid e3
        have d2 : ((st : Int) == 65535) = false := by simp; omega
        clear h2 e3
        go_enter Tryz.func66, Tryz.ntmps66
        go_wp2
        refine bodyPost_ret (results_cell_row rfl _ _ (w.heap.size + 1 + 1) _ _ (0, 0) _ rfl (blk4 rfl).2.2.1 Tryz.underlying86 rfl (by kernel_rfl)) rfl ?_
        exact ⟨by rw [← E1.out, ← E2.out, ← E3.out], (blk4 rfl).2.2.2.2⟩
end Go.Proofs.YtlccbekalccahaaGreatDoor
