/-
  The contracts of the document's own SameDefs and SameNeeds at two lists that are the same: true.
-/
import Derived.Test.YtfnaigeakfgpbaaRows
import Derived.Test.YtfnaigeakfgpbaaVeMem
import Derived.BigQuiet
import Derived.Deep.QuietTactic
import Derived.Lib.Hide
namespace Go.Proofs.Ytfnaigeakfgpbaa
open Go.RowKit

set_option maxRecDepth 100000 in
set_option maxHeartbeats 2000000 in
theorem sameD_any (A A' : Option Addr) (n c n' c' : Nat) (L : List Ve) (w : World) (h : ZV vmD w w.heap.size A n c L) (h' : ZV vmD w w.heap.size A' n' c' L) :
    Calls Try.prog 15 #[.slice A n c, .slice A' n' c'] w fun e w' => e = .returned (.bool true) ∧ Grow w w' := by
  obtain rfl : n' = n := h'.len.trans h.len.symm
  have HS := Lib.hid h
  have HS' := Lib.hid h'
  have HL : Hid (n' = L.length) := Lib.hid (by have := h.len; simpa using this)
  have hc := h.cap
  have hm := h.max
  have hc' := h'.cap
  have hm' := h'.max
  unfold maxLen at hm hm'
  clear h h'
  go_enter Try.func15, Try.ntmps15
  go_wp2
  go_loopw [5] (fun i wr => ∃ k m : Nat, k ≤ n' ∧ i = .int .i64 k ∧ wr = w.drewN m) (fun i _ => n' - (intOf i).toNat)
  case atStart => exact ⟨0, 0, Nat.zero_le _, rfl, rfl⟩
  case round =>
    obtain ⟨k, m, hk, rfl, rfl⟩ := hrel
    by_cases hlt : k < n'
    · obtain ⟨b, o, rfl⟩ := HS.out.pos (by omega)
      obtain ⟨bb, o2, rfl⟩ := HS'.out.pos (by omega)
      have hkl : k < L.length := by rw [← HL.out]; exact hlt
      obtain ⟨A1, n1, c1, -, p, z1⟩ := HS.out.at hkl
      obtain ⟨A3, n3, c3, -, q, z3⟩ := HS'.out.at hkl
      obtain rfl : n3 = n1 := z3.len.trans z1.len.symm
      have HZ1 := Lib.hid z1
      have HZ3 := Lib.hid z3
      have hc1 := z1.cap
      have hm1 := z1.max
      have hc3 := z3.cap
      have hm3 := z3.max
      unfold maxLen at hm1 hm3
      have HLn : Hid (n3 = L[k].p.length) := Lib.hid (by have := z1.len; simpa using this)
      clear z1 z3
      simp only [vmD] at p q HZ1 HZ3
      generalize L[k].h.getD 0 0 = h0 at p q
      generalize L[k].h.getD 1 0 = h1 at p q
      generalize L[k].h.getD 2 0 = h2 at p q
      have a0 : ∀ m, (w.drewN m).cell? ⟨b, o + k * 4, none⟩ = some (.int .u16 (h0 : Int)) := fun _ => p 0 _ rfl
      have a1 : ∀ m, (w.drewN m).cell? ⟨b, o + k * 4 + 1, none⟩ = some (.int .u16 (h1 : Int)) := fun _ => p 1 _ rfl
      have a2 : ∀ m, (w.drewN m).cell? ⟨b, o + k * 4 + 2, none⟩ = some (.int .u32 (h2 : Int)) := fun _ => p 2 _ rfl
      have a3 : ∀ m, (w.drewN m).cell? ⟨b, o + k * 4 + 3, none⟩ = some (.slice A1 n3 c1) := fun _ => p 3 _ rfl
      have b0 : ∀ m, (w.drewN m).cell? ⟨bb, o2 + k * 4, none⟩ = some (.int .u16 (h0 : Int)) := fun _ => q 0 _ rfl
      have b1 : ∀ m, (w.drewN m).cell? ⟨bb, o2 + k * 4 + 1, none⟩ = some (.int .u16 (h1 : Int)) := fun _ => q 1 _ rfl
      have b2 : ∀ m, (w.drewN m).cell? ⟨bb, o2 + k * 4 + 2, none⟩ = some (.int .u32 (h2 : Int)) := fun _ => q 2 _ rfl
      have b3 : ∀ m, (w.drewN m).cell? ⟨bb, o2 + k * 4 + 3, none⟩ = some (.slice A3 n3 c3) := fun _ => q 3 _ rfl
      clear p q
      generalize L[k].p = ps at HZ1 HZ3 HLn
      have w0 : (0 : Int) ≤ (k : Int) := by omega
      have w1 : (k : Int) < (n' : Int) := by omega
      go_wp2
      go_quiet (fail)
      go_wp2
      go_loopw [6] (fun j wr => ∃ q m : Nat, q ≤ n3 ∧ j = .int .i64 q ∧ wr = w.drewN m) (fun j _ => n3 - (intOf j).toNat)
      case atStart => exact ⟨0, _, Nat.zero_le _, rfl, World.drewN_drewN _ _ _⟩
      case round =>
        obtain ⟨q, m2, hq, rfl, rfl⟩ := hrel
        by_cases hlq : q < n3
        · obtain ⟨g, s, rfl, -, r⟩ := HZ1.out.pos (by omega)
          obtain ⟨g2, s2, rfl, -, t⟩ := HZ3.out.pos (by omega)
          have hql : q < ps.length := by rw [← HLn.out]; exact hlq
          replace r := r q (by simpa using hql)
          replace t := t q (by simpa using hql)
          simp only [List.getElem_map] at r t
          generalize ps[q].getD 0 0 = x0 at r t
          have r0 := r 0 _ rfl
          have t0 := t 0 _ rfl
          simp only [Nat.mul_one, Nat.add_zero] at r0 t0
          have c0 : ∀ m, (w.drewN m).cell? ⟨g, s + q, none⟩ = some (.int .u32 (x0 : Int)) := fun _ => r0
          have d0 : ∀ m, (w.drewN m).cell? ⟨g2, s2 + q, none⟩ = some (.int .u32 (x0 : Int)) := fun _ => t0
          clear r t
          have w2 : (0 : Int) ≤ (q : Int) := by omega
          have w3 : (q : Int) < (n3 : Int) := by omega
          go_wp2
          go_quiet (fail)
          go_wp2
          go_roundw
          case rel => exact ⟨q + 1, _, by omega, by go_num, rfl⟩
          case measure => simp [intOf]; omega
        · go_wp2
          go_roundw
          case rel => exact ⟨k + 1, _, by omega, by go_num, rfl⟩
          case measure => simp [intOf]; omega
    · go_wp2
      go_ret
      exact ⟨rfl, Grow.of_drewN _ _⟩

set_option maxRecDepth 100000 in
set_option maxHeartbeats 2000000 in
theorem sameN_any (A A' : Option Addr) (n c n' c' : Nat) (L : List Ve) (w : World) (h : ZV vmN w w.heap.size A n c L) (h' : ZV vmN w w.heap.size A' n' c' L) :
    Calls Try.prog 18 #[.slice A n c, .slice A' n' c'] w fun e w' => e = .returned (.bool true) ∧ Grow w w' := by
  obtain rfl : n' = n := h'.len.trans h.len.symm
  have HS := Lib.hid h
  have HS' := Lib.hid h'
  have HL : Hid (n' = L.length) := Lib.hid (by have := h.len; simpa using this)
  have hc := h.cap
  have hm := h.max
  have hc' := h'.cap
  have hm' := h'.max
  unfold maxLen at hm hm'
  clear h h'
  go_enter Try.func18, Try.ntmps18
  go_wp2
  go_loopw [5] (fun i wr => ∃ k m : Nat, k ≤ n' ∧ i = .int .i64 k ∧ wr = w.drewN m) (fun i _ => n' - (intOf i).toNat)
  case atStart => exact ⟨0, 0, Nat.zero_le _, rfl, rfl⟩
  case round =>
    obtain ⟨k, m, hk, rfl, rfl⟩ := hrel
    by_cases hlt : k < n'
    · obtain ⟨b, o, rfl⟩ := HS.out.pos (by omega)
      obtain ⟨bb, o2, rfl⟩ := HS'.out.pos (by omega)
      have hkl : k < L.length := by rw [← HL.out]; exact hlt
      obtain ⟨A1, n1, c1, -, p, z1⟩ := HS.out.at hkl
      obtain ⟨A3, n3, c3, -, q, z3⟩ := HS'.out.at hkl
      obtain rfl : n3 = n1 := z3.len.trans z1.len.symm
      have HZ1 := Lib.hid z1
      have HZ3 := Lib.hid z3
      have hc1 := z1.cap
      have hm1 := z1.max
      have hc3 := z3.cap
      have hm3 := z3.max
      unfold maxLen at hm1 hm3
      have HLn : Hid (n3 = L[k].p.length) := Lib.hid (by have := z1.len; simpa using this)
      clear z1 z3
      simp only [vmN] at p q HZ1 HZ3
      generalize L[k].h.getD 0 0 = h0 at p q
      have a0 : ∀ m, (w.drewN m).cell? ⟨b, o + k * 2, none⟩ = some (.int .u32 (h0 : Int)) := fun _ => p 0 _ rfl
      have a1 : ∀ m, (w.drewN m).cell? ⟨b, o + k * 2 + 1, none⟩ = some (.slice A1 n3 c1) := fun _ => p 1 _ rfl
      have b0 : ∀ m, (w.drewN m).cell? ⟨bb, o2 + k * 2, none⟩ = some (.int .u32 (h0 : Int)) := fun _ => q 0 _ rfl
      have b1 : ∀ m, (w.drewN m).cell? ⟨bb, o2 + k * 2 + 1, none⟩ = some (.slice A3 n3 c3) := fun _ => q 1 _ rfl
      clear p q
      generalize L[k].p = ps at HZ1 HZ3 HLn
      have w0 : (0 : Int) ≤ (k : Int) := by omega
      have w1 : (k : Int) < (n' : Int) := by omega
      go_wp2
      go_quiet (fail)
      go_wp2
      go_loopw [6] (fun j wr => ∃ q m : Nat, q ≤ n3 ∧ j = .int .i64 q ∧ wr = w.drewN m) (fun j _ => n3 - (intOf j).toNat)
      case atStart => exact ⟨0, _, Nat.zero_le _, rfl, World.drewN_drewN _ _ _⟩
      case round =>
        obtain ⟨q, m2, hq, rfl, rfl⟩ := hrel
        by_cases hlq : q < n3
        · obtain ⟨g, s, rfl, -, r⟩ := HZ1.out.pos (by omega)
          obtain ⟨g2, s2, rfl, -, t⟩ := HZ3.out.pos (by omega)
          have hql : q < ps.length := by rw [← HLn.out]; exact hlq
          replace r := r q (by simpa using hql)
          replace t := t q (by simpa using hql)
          simp only [List.getElem_map] at r t
          generalize ps[q].getD 0 0 = x0 at r t
          generalize ps[q].getD 1 0 = x1 at r t
          generalize ps[q].getD 2 0 = x2 at r t
          generalize ps[q].getD 3 0 = x3 at r t
          have c0 : ∀ m, (w.drewN m).cell? ⟨g, s + q * 4, none⟩ = some (.int .u32 (x0 : Int)) := fun _ => r 0 _ rfl
          have c1 : ∀ m, (w.drewN m).cell? ⟨g, s + q * 4 + 1, none⟩ = some (.int .u16 (x1 : Int)) := fun _ => r 1 _ rfl
          have c2 : ∀ m, (w.drewN m).cell? ⟨g, s + q * 4 + 2, none⟩ = some (.int .u16 (x2 : Int)) := fun _ => r 2 _ rfl
          have c3 : ∀ m, (w.drewN m).cell? ⟨g, s + q * 4 + 3, none⟩ = some (.int .u32 (x3 : Int)) := fun _ => r 3 _ rfl
          have d0 : ∀ m, (w.drewN m).cell? ⟨g2, s2 + q * 4, none⟩ = some (.int .u32 (x0 : Int)) := fun _ => t 0 _ rfl
          have d1 : ∀ m, (w.drewN m).cell? ⟨g2, s2 + q * 4 + 1, none⟩ = some (.int .u16 (x1 : Int)) := fun _ => t 1 _ rfl
          have d2 : ∀ m, (w.drewN m).cell? ⟨g2, s2 + q * 4 + 2, none⟩ = some (.int .u16 (x2 : Int)) := fun _ => t 2 _ rfl
          have d3 : ∀ m, (w.drewN m).cell? ⟨g2, s2 + q * 4 + 3, none⟩ = some (.int .u32 (x3 : Int)) := fun _ => t 3 _ rfl
          clear r t
          have w2 : (0 : Int) ≤ (q : Int) := by omega
          have w3 : (q : Int) < (n3 : Int) := by omega
          go_wp2
          go_quiet (fail)
          go_wp2
          go_roundw
          case rel => exact ⟨q + 1, _, by omega, by go_num, rfl⟩
          case measure => simp [intOf]; omega
        · go_wp2
          go_roundw
          case rel => exact ⟨k + 1, _, by omega, by go_num, rfl⟩
          case measure => simp [intOf]; omega
    · go_wp2
      go_ret
      exact ⟨rfl, Grow.of_drewN _ _⟩
end Go.Proofs.Ytfnaigeakfgpbaa
