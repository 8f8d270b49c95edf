/-
  The contracts of the document's own Numbers.
-/
import Derived.Test.YtfnaigeakfgpbaaRows
import Derived.Test.YtfnaigeakfgpbaaRowMath
import Derived.Test.YtfnaigeakfgpbaaNums
import Derived.Test.YtfnaigeakfgpbaaRefGet
namespace Go.Proofs.Ytfnaigeakfgpbaa
open Go.RowKit

/-- What Numbers answers. -/
def Numbed (l : List UInt8) (big : Bool) (p : Nat) (ns : List Nat) (w : World) (e : Ending) (w' : World) : Prop :=
  (p + sumN ns ≤ l.length ∧ ∃ A2 c2, e = .returned (.tuple #[.slice A2 ns.length c2, .bool true]) ∧ ON w' w.heap.size 62 .u64 A2 ns.length c2 (nums l big p ns) ∧ Grow w w') ∨
  (l.length < p + sumN ns ∧ e = .returned (.tuple #[.slice none 0 0, .bool false]) ∧ Grow w w')

set_option maxHeartbeats 400000 in
theorem numbersRef_any (A : Option Addr) (len c : Nat) (l : List UInt8) (p : Nat) (A' : Option Addr) (n' c' : Nat) (ns : List Nat) (big : Bool) (w : World)
    (h : RB w w.heap.size A len c l) (h' : NS w w.heap.size .i64 A' n' c' ns) (hp : p < 18446744073709551616) (hw : ∀ k (h : k < ns.length), wid ns[k] = true) (h0 : 0 < ns.length) (hfew : ns.length ≤ 100) :
    Calls Try.prog 27 #[.slice A len c, .int .u64 p, .slice A' n' c', .bool big] w (Numbed l big p ns w) := by
  have hn' := h'.len
  have hn : len = l.length := h.len
  have hmx := h.max
  have hcp := h.cap
  unfold maxLen at hmx
  have HN := Lib.hid hn
  have HN' := Lib.hid hn'
  have HR := Lib.hid h
  have HS := Lib.hid h'
  have HW := Lib.hid hw
  have hn100 : n' ≤ 100 := by omega
  have hn0 : 0 < n' := by omega
  clear h h' hw hn hn' hfew h0
  obtain ⟨b', off', rfl, hb1', hc1'⟩ := HS.out.pos hn0
  have HC := Lib.hid hc1'
  clear hc1'
  go_enter Try.func27, Try.ntmps27
  go_wp2_with fail
  go_loopw [1, 10, 11] (fun a x i wr => ∃ (k : Nat) (A2 : Option Addr) (c2 at' : Nat), k ≤ n' ∧ i = .int .i64 k ∧ a = .int .u64 at' ∧ x = .slice A2 k c2 ∧ at' = p + sumN (ns.take k) ∧ at' < 18446744073709551616 ∧ (0 < k → at' ≤ len) ∧
    ON wr w.heap.size 62 .u64 A2 k c2 (nums l big p (ns.take k)) ∧ Below w.heap.size w wr) (fun _ _ i _ => n' - (intOf i).toNat)
  case atStart => exact ⟨0, none, 0, p, Nat.zero_le _, rfl, rfl, rfl, rfl, hp, fun h => absurd h (Nat.lt_irrefl 0), ON.nil, Below.refl _ _⟩
  case round =>
    obtain ⟨k, A2, c2, at', hk, rfl, rfl, rfl, ha, ha64, hal, ho, hb⟩ := hrel
    by_cases hlt : k < n'
    · have hkq : k < ns.length := by rw [← HN'.out]; exact hlt
      have y2 : wr.cell? ⟨b', off' + k, none⟩ = some (.int .i64 (ns[k] : Int)) := (hb.cell hb1').trans (HC.out k hkq)
      have HM := Lib.hid (nums_succ l big ns p k hkq)
      have HU := Lib.hid (sumN_succ ns k hkq)
      have HWk := Lib.hid (HW.out k hkq)
      have HLE := Lib.hid (sumN_le ns (k + 1))
      have HA := Lib.hid ha
      have HAL := Lib.hid hal
      have HO := Lib.hid ho
      have HG := Lib.hid hb
      rw [← HA.out] at HM
      have hw8 : ns[k] ≤ 8 := by have := wid_cases HWk.out; omega
      have HC2 : Hid (w.cell? ⟨b', off' + k, none⟩ = some (.int .i64 (ns[k] : Int))) := HC.out k hkq
      generalize ns[k] = m at y2 HM HU HWk hw8 HC2
      have z1 : (0 : Int) ≤ (k : Int) := by omega
      have z3 : (k : Int) < (n' : Int) := by omega
      clear ha hal ho hb
      have HR1 : Hid (RB wr w.heap.size A len c l) := HR.out.belowAt HG.out (Nat.le_refl _)
      go_wp2_with fail
      refine (refGet_any A len c l _ at' m big _ HR1.out (by omega)).mono ?_
      rintro e w2 ⟨rfl, rfl⟩
      clear y2
      have hg : gotB l at' m = decide (at' + m ≤ len) := by
        simp only [gotB, HWk.out, Bool.true_and, wthn, HN.out]
        rw [Bool.eq_iff_iff, decide_eq_true_iff, decide_eq_true_iff]; omega
      by_cases hin : at' + m ≤ len
      · have hv : gotV l at' m big = getB ((l.drop at').take m) big := by
          simp only [gotV, hg, hin, decide_true, if_true, Int.toNat_natCast]
        have hgt : gotB l at' m = true := by rw [hg]; exact decide_eq_true hin
        rw [hgt, hv]
        generalize getB ((l.drop at').take m) big = v at HM ⊢
        have HIN := Lib.hid hin
        clear hin hg hgt hv HR1
        go_wp2_with (at_builtin; refine wpList_append1 _ rfl (.tmp 33) (.tmp 35) 65 rfl w.heap.size 62 .u64 8 Try.underlying65 (by kernel_rfl) A2 k c2 _ rfl (HO.out.keep (Grow.of_alloc _ _)) wr.heap.size _ v rfl (Blk.new _ _ _) (by unfold maxLen; omega) (by omega) (by have := HG.out.size; simp; omega) ?_; intro A3 c3 w3 ho3 hb3; have HG3 : Hid (Below w.heap.size w w3) := (HG.out.trans ((Grow.of_alloc wr _).mono HG.out.size)).trans hb3; have HO3 := Lib.hid ho3; have y3 : w3.cell? ⟨b', off' + k, none⟩ = some (.int .i64 (m : Int)) := (HG3.out.cell hb1').trans (HC2.out); have hin2 := HIN.out; clear ho3 hb3)
        go_roundw
        case rel => exact ⟨k + 1, A3, c3, at' + m, by omega, by go_num, by go_num, rfl, by rw [HU.out, HA.out]; omega, by omega, fun _ => HIN.out, by rw [HM.out]; exact HO3.out, HG3.out⟩
        case measure => simp [intOf]; omega
      · have hgt : gotB l at' m = false := by rw [hg]; exact decide_eq_false hin
        rw [hgt]
        have HF : Hid (l.length < p + sumN ns) := by
          have e2 := HU.out; have e3 := HA.out; have e4 := HN.out
          have e1 : sumN (ns.take k) + m ≤ sumN ns := by rw [← e2]; exact HLE.out
          exact Lib.hid (by omega)
        clear hin hg hgt
        go_wp2
        go_ret2
        exact .inr ⟨HF.out, rfl, HG.out⟩
    · have HK : Hid (ns.take k = ns) := by
        have e : k = n' := by omega
        rw [e, HN'.out]
        exact List.take_length
      have HKn : Hid (k = ns.length) := by rw [← HN'.out]; exact (by omega : k = n')
      rw [HK.out] at ho ha
      have HF : Hid (p + sumN ns ≤ l.length) := by
        have e4 := HN.out
        rw [← ha, ← e4]; exact hal (by omega)
      have HO := Lib.hid ho
      have HG := Lib.hid hb
      clear ho hb ha hal
      go_wp2
      go_ret2
      exact .inl ⟨HF.out, A2, c2, by rw [← HKn.out]; rfl, by rw [← HKn.out]; exact HO.out, HG.out⟩
end Go.Proofs.Ytfnaigeakfgpbaa
