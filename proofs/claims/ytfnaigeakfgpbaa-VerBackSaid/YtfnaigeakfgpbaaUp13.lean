/-
  The contracts of ver.Defs and ver.Needs, and of the head of layer 13's statements: the document's example holds.
-/
import Derived.Test.YtfnaigeakfgpbaaVeAllD
import Derived.Test.YtfnaigeakfgpbaaVeAllN
import Derived.Test.YtfnaigeakfgpbaaVeNeed
import Derived.Test.YtfnaigeakfgpbaaVePutD
namespace Go.Proofs.Ytfnaigeakfgpbaa
open Go.RowKit

theorem defs_any (A : Option Addr) (n c : Nat) (l : List UInt8) (big : Bool) (w : World) (h : RB w w.heap.size A n c l) (hn47 : n ≤ 1000000) :
    Calls Try.prog 12 #[.slice A n c, .bool big] w (VAll vmD (vAns vkD l big) w) := by
  have HA : Hid (∀ w', Grow w w' → Calls Try.prog 25 #[.agg #[.slice A n c, .bool big], .agg #[.int .u64 20, .int .u64 8, .int .u64 6], .func (.func 26) #[.agg #[.slice A n c, .bool big]] #[]] w' (VAll vmD (vAns vkD l big) w')) :=
    Lib.hid fun w' (hg : Grow w w') => vallD_any A n c l big w' ((h.belowAt hg (Nat.le_refl _)).more hg.size) hn47 (fun a ps A2 n2 c2 w2 hg2 hns hq hk hl =>
      vdef_any A n c l a big A2 n2 c2 ps w2 ((h.belowAt (hg.trans hg2) (Nat.le_refl _)).more (hg.trans hg2).size) hns hq hk hl)
  clear h
  have hmf : ∀ (fn : Fn) (first cap : Array Value) (w : World), (Instr.makeFunc fn first cap).run Try.prog w = .ok (.func fn first cap) w := fun _ _ _ _ => rfl
  unfold VAll at HA ⊢
  generalize vAns vkD l big = S at HA ⊢
  go_enter Try.func12, Try.ntmps12
  go_wp2_with fail
  refine (HA.out _ (Grow.of_alloc _ _)).mono ?_
  rintro e w2 (⟨h0, A2, c2, rfl, hz, hg⟩ | ⟨h0, v, rfl, hE, hg⟩)
  · have HZ := Lib.hid hz
    have HG : Hid (Grow w w2) := (Grow.of_alloc _ _).trans hg
    clear hz hg HA
    go_wp2
    go_ret2
    exact .inl ⟨h0, A2, c2, rfl, HZ.out, HG.out⟩
  · have HE := Lib.hid hE
    have HG : Hid (Grow w w2) := (Grow.of_alloc _ _).trans hg
    clear hE hg HA
    go_wp2
    go_ret2
    exact .inr ⟨h0, v, rfl, HE.out, HG.out⟩

theorem needs_any (A : Option Addr) (n c : Nat) (l : List UInt8) (big : Bool) (w : World) (h : RB w w.heap.size A n c l) (hn47 : n ≤ 1000000) :
    Calls Try.prog 16 #[.slice A n c, .bool big] w (VAll vmN (vAns vkN l big) w) := by
  have HA : Hid (∀ w', Grow w w' → Calls Try.prog 29 #[.agg #[.slice A n c, .bool big], .agg #[.int .u64 16, .int .u64 16, .int .u64 2], .func (.func 30) #[.agg #[.slice A n c, .bool big]] #[]] w' (VAll vmN (vAns vkN l big) w')) :=
    Lib.hid fun w' (hg : Grow w w') => vallN_any A n c l big w' ((h.belowAt hg (Nat.le_refl _)).more hg.size) hn47 (fun a ps A2 n2 c2 w2 hg2 hns hq hk hl =>
      vneed_any A n c l a big A2 n2 c2 ps w2 ((h.belowAt (hg.trans hg2) (Nat.le_refl _)).more (hg.trans hg2).size) hns hq hk hl)
  clear h
  have hmf : ∀ (fn : Fn) (first cap : Array Value) (w : World), (Instr.makeFunc fn first cap).run Try.prog w = .ok (.func fn first cap) w := fun _ _ _ _ => rfl
  unfold VAll at HA ⊢
  generalize vAns vkN l big = S at HA ⊢
  go_enter Try.func16, Try.ntmps16
  go_wp2_with fail
  refine (HA.out _ (Grow.of_alloc _ _)).mono ?_
  rintro e w2 (⟨h0, A2, c2, rfl, hz, hg⟩ | ⟨h0, v, rfl, hE, hg⟩)
  · have HZ := Lib.hid hz
    have HG : Hid (Grow w w2) := (Grow.of_alloc _ _).trans hg
    clear hz hg HA
    go_wp2
    go_ret2
    exact .inl ⟨h0, A2, c2, rfl, HZ.out, HG.out⟩
  · have HE := Lib.hid hE
    have HG : Hid (Grow w w2) := (Grow.of_alloc _ _).trans hg
    clear hE hg HA
    go_wp2
    go_ret2
    exact .inr ⟨h0, v, rfl, HE.out, HG.out⟩

def veA : Ve := ⟨[0, 1, 0], [[7]]⟩
theorem veA_ok : ∀ e ∈ [veA], e.Ok vkD := fun e he => by
  obtain rfl : e = veA := by simpa using he
  refine ⟨⟨by decide, by decide, by decide, trivial⟩, fun x hx => ?_⟩
  obtain rfl : x = [7] := by simpa [veA] using hx
  exact ⟨by decide, trivial⟩
theorem veA_may : VMays [veA] = true := by decide
theorem veA_len : (vsB vkD false [veA]).length = 28 := by decide +kernel
theorem veA_all : vAns vkD (vsB vkD false [veA]) false = ([veA], 0, 0) := by
  have := ans_back (.inl rfl) false [veA] (fun e he => ⟨veA_ok e he, by rw [List.mem_singleton.1 he]; rfl⟩) (by decide) []
  rwa [List.append_nil] at this

set_option maxRecDepth 100000 in
set_option maxHeartbeats 400000 in
theorem up13_any (w : World) : Calls Try.prog 5 #[] w fun e w' => e = .returned (.bool true) ∧ Grow w w' := by
  go_enter Try.func5, Try.ntmps5
  go_wp2_with fail
  generalize hW : World.alloc _ _ = W0
  obtain ⟨b1, b2, hg0⟩ := blk2 hW
  clear hW
  have hN : ZV vmD W0 W0.heap.size (some ⟨w.heap.size + 1, 0, none⟩) 1 1 [veA] := by
    refine ⟨[#[.int .u16 0, .int .u16 1, .int .u32 0, .slice (some ⟨w.heap.size, 0, none⟩) 1 1]], ZS.one b2 b2.lt, rfl, fun j hj hj' => ?_⟩
    obtain rfl : j = 0 := by simp at hj; omega
    exact ⟨some ⟨w.heap.size, 0, none⟩, 1, 1, rfl, ZS.one b1 b1.lt⟩
  have HG0 := Lib.hid hg0
  clear hg0 b1 b2
  refine (putD_any _ 1 1 [veA] veA_ok false (by rw [veA_len]; decide) (by decide) W0 hN).mono ?_
  rintro e w1 (⟨-, A1, c1, rfl, ho1, hg1⟩ | ⟨hno, -⟩)
  rotate_left
  · rw [veA_may] at hno; cases hno
  rw [show vmD.K = vkD from rfl, veA_len] at ho1
  rw [show vmD.K = vkD from rfl, veA_len]
  have HR1 := Lib.hid ho1.rb
  have HG1 : Hid (Grow w w1) := HG0.out.trans hg1
  clear ho1 hg1 hN HG0
  go_wp2_with fail
  refine (defs_any A1 28 c1 _ false w1 HR1.out (by decide)).mono ?_
  unfold VAll
  rw [veA_all]
  rintro e w2 (⟨-, A2, c2, rfl, hz, hg2⟩ | ⟨hn, -⟩)
  rotate_left
  · exact absurd rfl hn
  have HG2 : Hid (Grow w w2) := HG1.out.trans hg2
  clear hz hg2 HG1 HR1
  go_wp2_with fail
  refine (needs_any none 0 0 [] true w2 RB.nil (by decide)).mono ?_
  unfold VAll
  rw [show vAns vkN [] true = ([], 0, 0) from rfl]
  rintro e w3 (⟨-, A3, c3, rfl, hz, hg3⟩ | ⟨hn, -⟩)
  rotate_left
  · exact absurd rfl hn
  have HG3 : Hid (Grow w w3) := HG2.out.trans hg3
  clear hz hg3 HG2
  go_wp2
  go_ret
  exact ⟨rfl, HG3.out⟩
end Go.Proofs.Ytfnaigeakfgpbaa
