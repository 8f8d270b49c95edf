/-
  The contracts of note.filled, note.isZero, bytes.Clone, and of the document's own up.
-/
import Derived.Test.YtheekcjpphcihaaRows
import Derived.Test.YtheekcjpphcihaaRet
import Derived.Test.YtheekcjpphcihaaNtMem
import Derived.WalkKit
import Derived.Laws.BitsAllLaws
import Derived.Lib.Hide
namespace Go.Proofs.Ytheekcjpphcihaa
open Go.RowKit

theorem and_up (x : Nat) (h : x < 18446744073709551616) : x &&& 18446744073709551612 = x / 4 * 4 := by
  have e1 : (18446744073709551612 : Nat) = 4611686018427387903 <<< 2 := by decide
  have e2 : x / 4 * 4 = (x >>> 2) <<< 2 := by rw [Nat.shiftRight_eq_div_pow, Nat.shiftLeft_eq]
  rw [e1, e2]
  apply Nat.eq_of_testBit_eq
  intro i
  rw [Nat.testBit_and, Nat.testBit_shiftLeft, Nat.testBit_shiftLeft, Nat.testBit_shiftRight]
  by_cases h2 : 2 ≤ i
  · have e3 : 2 + (i - 2) = i := by omega
    have e4 : (4611686018427387903 : Nat) = 2 ^ 62 - 1 := by decide
    rw [e3, e4, Nat.testBit_two_pow_sub_one]
    by_cases h3 : i < 64
    · simp [h2, show i - 2 < 62 by omega]
    · have : x.testBit i = false := Nat.testBit_lt_two_pow (Nat.lt_of_lt_of_le h (by
        have : (18446744073709551616 : Nat) = 2 ^ 64 := by decide
        rw [this]; exact Nat.pow_le_pow_right (by decide) (by omega)))
      simp [this]
  · simp [h2]

theorem filled_any (n : Nat) (hn : n ≤ 9223372036854775807) (w : World) : Calls Try.prog 21 #[.int .u64 n] w fun e w' => e = .returned (.int .u64 (fil n : Nat)) ∧ w = w' := by
  have z1 : IntKind.u64.wrap ((n : Int) + 3) = ((n + 3 : Nat) : Int) := by rw [IntKind.wrap_u64]; omega
  have z2 : bits .andNot .u64 ((n : Int) + 3) 3 = ((fil n : Nat) : Int) := by
    have := u64_andNot_nat (n + 3) 3 (by omega) (by omega)
    rw [show ((n + 3 : Nat) : Int) = (n : Int) + 3 from by omega] at this
    rw [show ((3 : Nat) : Int) = 3 from rfl] at this
    rw [this, show 18446744073709551615 - 3 = 18446744073709551612 from rfl, and_up _ (by omega)]
    rfl
  generalize fil n = f at z2 ⊢
  go_enter Try.func21, Try.ntmps21
  go_wp2
  go_ret
  exact ⟨rfl, rfl⟩

theorem upRef_any (n : Nat) (hn : n ≤ 9223372036854775807) (w : World) : Calls Try.prog 15 #[.int .u64 n] w fun e w' => e = .returned (.int .u64 (fil n : Nat)) ∧ w = w' := by
  have HF : Hid (((n : Int) + 3) / 4 * 4 = ((fil n : Nat) : Int)) := Lib.hid (by unfold fil; omega)
  generalize fil n = f at HF ⊢
  have z1 : IntKind.u64.wrap ((n : Int) + 3) = ((n + 3 : Nat) : Int) := by rw [IntKind.wrap_u64]; omega
  go_enter Try.func15, Try.ntmps15
  go_wp2
  go_ret
  exact ⟨congrArg (fun x => Ending.returned (Value.int .u64 x)) HF.out, rfl⟩

set_option maxHeartbeats 400000 in
theorem isZero_any (A : Option Addr) (n c : Nat) (l : List UInt8) (B : Nat) (w : World) (h : RB w B A n c l) :
    Calls Try.prog 22 #[.slice A n c] w fun e w' => e = .returned (.bool (zeros l)) ∧ w = w' := by
  have HR := Lib.hid h
  have HL := Lib.hid h.len
  have hc := h.cap
  have hm := h.max
  unfold maxLen at hm
  clear h
  go_enter Try.func22, Try.ntmps22
  go_wp2
  go_loop [7] (fun i => ∃ k : Nat, k ≤ n ∧ i = .int .i64 k ∧ Hid (∀ j (hj : j < l.length), j < k → l[j] = 0)) (fun i => n - (intOf i).toNat)
  case atStart => exact ⟨0, Nat.zero_le _, rfl, Lib.hid fun j _ hj => absurd hj (by omega)⟩
  case round =>
    obtain ⟨k, hk, rfl, HK⟩ := hrel
    by_cases hlt : k < n
    · obtain ⟨b, off, rfl, hb, hcell⟩ := HR.out.pos (by omega)
      have hkl : k < l.length := by rw [← HL.out]; exact hlt
      have q := hcell k hkl
      obtain ⟨v, hv⟩ : ∃ v, l[k] = v := ⟨_, rfl⟩
      rw [hv] at q
      have HV := Lib.hid hv
      clear hcell hb hv
      by_cases h0 : v = 0
      · subst h0
        have HV2 := HV
        clear HV
        go_wp2
        go_round
        case rel =>
          refine ⟨k + 1, by omega, by go_num, Lib.hid fun j hjl hj => ?_⟩
          by_cases e : j < k
          · exact HK.out j hjl e
          · have : j = k := by omega
            subst this
            exact HV2.out
        case measure => simp [intOf]; omega
      · have E : Hid (zeros l = false) := by
          refine Lib.hid ?_
          unfold zeros
          rw [List.all_eq_false]
          exact ⟨l[k], List.getElem_mem _, by rw [HV.out]; simpa using h0⟩
        have d1 : ((v.toNat : Int) == 0) = false := by
          have : v.toNat ≠ 0 := fun e => h0 (by apply UInt8.toNat_inj.1; simpa using e)
          simp; omega
        go_wp2
        go_ret
        exact ⟨by rw [E.out]; rfl, rfl⟩
    · have E : Hid (zeros l = true) := by
        refine Lib.hid (List.all_eq_true.2 fun b hb => ?_)
        obtain ⟨j, hj, rfl⟩ := List.getElem_of_mem hb
        rw [HK.out j hj (by have := HL.out; omega)]
        rfl
      go_wp2
      go_ret
      exact ⟨by rw [E.out]; rfl, rfl⟩

set_option maxHeartbeats 400000 in
theorem clone_any (a : Addr) (n c : Nat) (l : List UInt8) (B : Nat) (w : World) (h : RB w B (some a) n c l) (hB : B ≤ w.heap.size) (hn : n ≤ 140737488355328) :
    Calls Try.prog 23 #[.slice (some a) n c] w fun e w' => ∃ A2 c2, e = .returned (.slice A2 n c2) ∧ OB w' w.heap.size 5 A2 n c2 l ∧ Grow w w' := by
  have HR := Lib.hid h
  have HL := Lib.hid h.len
  have hc := h.cap
  have hm := h.max
  unfold maxLen at hm
  clear h
  have hz : n ≤ 140737488355328 := hn
  have HO := Lib.hid (OB.of_blk (base := w.heap.size) (l := []) (Blk.new w 5 #[]) (Nat.le_refl _) (by decide))
  have hg1 := Grow.of_alloc w (.cells #[] 5)
  have HR1 := Lib.hid (HR.out.belowAt hg1 hB)
  have HG1 := Lib.hid hg1
  have HS1 := Lib.hid hg1.size
  clear hg1 HR
  have heq : ∀ w, (binOp .eql 25 (.slice (some a) n c) (.slice none 0 0)).run Try.prog w = .ok (.bool false) w := fun w => by rfl
  go_enter Try.func23, Try.ntmps23
  go_wp2_with (refine wpList_appendB (w.alloc (.cells #[] 5)) rfl (.tmp 5) (.tmp 6) 25 rfl w.heap.size 5 Try.underlying25 (by kernel_rfl) _ _ _ _ rfl HO.out B _ n c l rfl HR1.out (by simpa using hz) HS1.out ?_; intro A5 c5 w9 ho9 hb9; refine Hid.out ?_)
  have HO9 := Lib.hid ho9
  have HB9 : Hid (Grow w w9) := HG1.out.trans' hb9
  clear ho9 hb9 HO HR1 HG1 HS1
  refine Lib.hid ?_
  go_wp2
  go_ret
  have h9 := HO9.out
  rw [Nat.zero_add, List.nil_append] at h9
  exact ⟨A5, c5, rfl, h9, HB9.out⟩
end Go.Proofs.Ytheekcjpphcihaa
