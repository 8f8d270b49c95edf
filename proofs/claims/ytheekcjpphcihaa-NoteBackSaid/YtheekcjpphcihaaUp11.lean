/-
  The contract of the head of layer 11's statements: the document's example holds.
-/
import Derived.Test.YtheekcjpphcihaaNtPut
import Derived.Test.YtheekcjpphcihaaNtAll
import Derived.Test.YtheekcjpphcihaaConv
import Derived.Lib.SlBytesConst
namespace Go.Proofs.Ytheekcjpphcihaa
open Go.RowKit

def ntA : Nt := ⟨[97], [], 0⟩
theorem ntA_ok : ∀ s ∈ [ntA], s.Ok := fun s hs => by
  obtain rfl : s = ntA := by simpa using hs
  exact ⟨by decide, by decide, by decide⟩
theorem ntA_len : (ntsB false [ntA]).length = 16 := by decide +kernel
theorem ntA_all : ntRest (ntsB false [ntA]) false 0 = ([ntA], 0, 0) := ntRest_put [ntA] ntA_ok false 1 0 rfl

/-- One note in memory. -/
theorem ZN.one {w : World} {g n c n' c' B : Nat} {t : TypeId} {A A' : Option Addr} {s : Nt} (h : Blk w g t #[.slice A n c, .slice A' n' c', .int .u32 (s.typ : Int)]) (hg : g < B) (h1 : RB w B A n c s.name) (h2 : RB w B A' n' c' s.desc) :
    ZN w B (some ⟨g, 0, none⟩) 1 1 [s] := by
  refine ⟨[#[.slice A n c, .slice A' n' c', .int .u32 (s.typ : Int)]], ZS.one h hg, rfl, fun j hj hj' => ?_⟩
  have : j = 0 := by simp at hj; omega
  subst this
  exact ⟨A, n, c, A', n', c', rfl, h1, h2⟩

set_option maxRecDepth 100000 in
set_option maxHeartbeats 400000 in
theorem up11_any (w : World) : Calls Try.prog 5 #[] w fun e w' => e = .returned (.bool true) ∧ Grow w w' := by
  have hcv := fun (w : World) (C : Array Value) (n c : Nat) => Lib.run_convert_bytes_const (P := Try.prog) w 25 5 C n c Try.underlying25 Try.underlying5
  go_enter Try.func5, Try.ntmps5
  go_wp2_with fail
  clear hcv
  have hg1 : Grow w (w.alloc (.cells #[.int .u8 97] 5 (1, 2))) := Grow.of_alloc _ _
  have c1 : (w.alloc (.cells #[.int .u8 97] 5 (1, 2))).cell? ⟨w.heap.size, 0, none⟩ = some (.int .u8 97) := cell_of_row _ w.heap.size 0 #[.int .u8 97] 5 (1, 2) (heap_alloc_new w _)
  have hs1 : (w.alloc (.cells #[.int .u8 97] 5 (1, 2))).heap.size = w.heap.size + 1 := by simp
  have hW : ∃ W1, W1 = w.alloc (.cells #[.int .u8 97] 5 (1, 2)) := ⟨_, rfl⟩
  obtain ⟨W1, hW1⟩ := hW
  rw [← hW1] at hg1 c1 hs1
  first | rw [← hW1] | simp only [← hW1]
  clear hW1
  rw [← hs1]
  generalize hW : World.alloc _ _ = W0
  obtain ⟨b2, hg2⟩ := blk1 hW
  clear hW
  have hg0 := hg1.trans hg2
  have hN : ZN W0 W0.heap.size (some ⟨W1.heap.size, 0, none⟩) 1 1 [ntA] := ZN.one b2 b2.lt
    (⟨rfl, Nat.le_refl _, by decide, fun _ => ⟨w.heap.size, 0, rfl, by have := hg2.size; omega, fun j hj => by
      have : j = 0 := by simp [ntA] at hj; omega
      subst this
      rw [hg2.cell (by show w.heap.size < _; omega)]
      exact c1⟩⟩) RB.nil
  have HG0 := Lib.hid hg0
  clear hg0 hg1 hg2 b2 c1 hs1
  refine (nPut_any _ 1 1 [ntA] ntA_ok false false (by rw [ntA_len]; decide) W0 hN).mono ?_
  rintro e w1 ⟨A1, c1, rfl, ho1, hg1⟩
  rw [ntA_len] at ho1
  rw [ntA_len]
  have HR1 := Lib.hid ho1.rb
  have HG1 : Hid (Grow w w1) := HG0.out.trans hg1
  clear ho1 hg1 hN HG0
  go_wp2_with fail
  refine (nAll_any A1 16 c1 _ false false w1 HR1.out (by rw [ntA_len]; decide)).mono ?_
  rw [ntA_all]
  rintro e w2 (⟨-, A2, c2, rfl, hz, hg2⟩ | ⟨hn, -⟩)
  rotate_left
  · exact absurd rfl hn
  have hz' : ZN w2 w2.heap.size A2 1 c2 [ntA] := hz
  obtain ⟨b, off, rfl⟩ := hz'.pos (by decide)
  obtain ⟨A3, n3, c3, A4, n4, c4, -, ⟨p0, p1, -⟩, r1, r2⟩ := hz'.at (k := 0) (by decide)
  obtain rfl : n3 = 1 := r1.len
  obtain rfl : n4 = 0 := r2.len
  rw [Nat.zero_mul, Nat.add_zero] at p0 p1
  have s1 := r1.conv (Nat.le_refl _) w2 (Grow.refl _)
  have hcap := hz'.cap
  have HG2 : Hid (Grow w w2) := HG1.out.trans hg2
  clear hz hz' r1 r2 hg2 HG1 HR1
  go_wp2
  go_ret
  exact ⟨rfl, HG2.out⟩
end Go.Proofs.Ytheekcjpphcihaa
