/-
  The contract of wire.Put: at any number, any width, in both orders it returns the number's bytes in new memory, or none.
-/
import Derived.Test.YtfnaigeakfgpbaaWireGet
import Derived.Test.YtfnaigeakfgpbaaApp
import Derived.Deep.OwnRows
namespace Go.Proofs.Ytfnaigeakfgpbaa
open Go.RowKit Go.Deep

/-- The call returned a slice of its own that holds the bytes l, and nothing that was there has changed. -/
def Made (l : List UInt8) (w : World) (e : Ending) (w' : World) : Prop :=
  ∃ A c, e = .returned (.slice A l.length c) ∧ OB w' w.heap.size 5 A l.length c l ∧ Below w.heap.size w w'

def putL (v n : Int) (big : Bool) : List UInt8 := if wid n then putB v.toNat n.toNat big else []

theorem put_no (v n : Int) (big : Bool) (w : World) (h : wid n = false) :
    Calls Try.prog 31 #[.int .u64 v, .int .i64 n, .bool big] w fun e w' => e = .returned (.slice none 0 0) ∧ w = w' := by
  have H := Lib.hid h
  clear h
  go_enter Try.func31, Try.ntmps31
  go_wp2_with (go_at_call 42; refine (isWidth_any _ _).mono ?_; rintro e w' ⟨rfl, rfl⟩; rw [H.out])
  go_ret
  exact ⟨rfl, rfl⟩

/-- The first k bytes are written. -/
def wrote (l : List UInt8) (k j : Nat) : Value := .int .u8 (if j < k then (l.getD j 0).toNat else 0 : Nat)

theorem shr_fact (v r : Nat) (hr : r < 8) : Op.shift .shr .u64 (v : Int) .u64 (8 * (r : Nat) : Int) = pure (.int .u64 ((v / 256 ^ r : Nat) : Int)) := by
  rw [shift_shr_any _ _ _ _ (by omega), show min ((8 * (r : Nat) : Int)).toNat IntKind.u64.bits = 8 * r by simp [IntKind.bits]; omega]
  congr 2
  rw [pow256]
  simp

set_option maxHeartbeats 400000 in
theorem put_yes (v n : Nat) (big : Bool) (w : World) (h : wid n = true) :
    Calls Try.prog 31 #[.int .u64 v, .int .i64 n, .bool big] w fun e w' => e = .returned (.slice (some ⟨w.heap.size, 0, none⟩) n n) ∧
      w'.rowIs w.heap.size 5 n (wrote (putB v n big) n) ∧ Below w.heap.size w w' := by
  have hn8 : n ≤ 8 := by have := wid_cases h; omega
  have H := Lib.hid h
  have hmk : ∀ W : World, (Instr.makeSlice 24 (.int .i64 (n : Int)) (.int .i64 (n : Int))).run Try.prog W = .ok (.slice (some ⟨W.heap.size, 0, none⟩) n n) (W.alloc (.cells (madeCells #[.int .u8 0] n) 5)) :=
    fun W => run_make_row' 24 5 (.int .u8 0) 1 Try.underlying24 (by kernel_rfl) rfl _ _ n (by omega) (by omega) W
  have h0 : (w.alloc (.cells (madeCells #[.int .u8 0] n) 5)).rowIs w.heap.size 5 n (wrote (putB v n big) 0) := (World.rowIs_made w (.int .u8 0) n 5).congr fun i _ => by simp [wrote]
  have H0 := Lib.hid h0
  clear h h0
  go_enter Try.func31, Try.ntmps31
  go_wp2_with (go_at_call 42; refine (isWidth_any _ _).mono ?_; rintro e w' ⟨rfl, rfl⟩; rw [H.out])
  obtain ⟨g, hg⟩ : ∃ g, g = w.heap.size := ⟨_, rfl⟩
  rw [← hg] at H0
  have HG := Lib.hid hg
  rw [← hg]
  clear hmk
  go_loopw [15] (fun i wr => ∃ k : Nat, k ≤ n ∧ i = .int .i64 k ∧ wr.rowIs g 5 n (wrote (putB v n big) k) ∧ Below g w wr) (fun i _ => n - (intOf i).toNat)
  case atStart => exact ⟨0, Nat.zero_le _, rfl, H0.out, (Below.refl _ _).alloc (by omega) _⟩
  case round =>
    obtain ⟨k, hk, rfl, hrow, hbel⟩ := hrel
    clear hg
    by_cases hlt : k < n
    · have hcl := hrow.cell hlt
      have hfz := hrow.frozen k
      have HR := Lib.hid hrow
      have HB := Lib.hid hbel
      have z7 := shr_fact v (rank k n big) (by have := rank_lt k n big hlt; omega)
      obtain ⟨y, hy⟩ : ∃ y, y = v / 256 ^ rank k n big := ⟨_, rfl⟩
      have HY := Lib.hid hy
      rw [← hy] at z7
      clear hrow hbel hy
      go_wp2_with (go_at_call 43; refine (shift_any k n big _ hlt hn8).mono ?_; rintro e w' ⟨rfl, rfl⟩)
      go_roundw
      case rel =>
        refine ⟨k + 1, by omega, by go_num, (HR.out.set k _).congr fun j hj => ?_, HB.out.setCell (Nat.le_refl _) _⟩
        have hyv : (putB v n big).getD j 0 = UInt8.ofNat (v / 256 ^ rank j n big) := by rw [List.getD_eq_getElem?_getD, putB_at v n j big hj]; rfl
        by_cases e : j = k
        · subst e
          simp only [if_true, wrote, Nat.lt_succ_self, hyv, HY.out, toNat_ofNat8]
          simp
        · rw [if_neg e]
          by_cases e2 : j < k
          · simp only [wrote, if_pos e2, if_pos (show j < k + 1 by omega)]
          · simp only [wrote, if_neg e2, if_neg (show ¬ j < k + 1 by omega)]
      case measure => simp [intOf]; omega
    · have HR : Hid (wr.rowIs g 5 n (wrote (putB v n big) n)) := by
        have e : k = n := by omega
        rw [e] at hrow
        exact hrow
      have HB := Lib.hid hbel
      clear hrow hbel
      go_wp2
      go_ret
      rw [← HG.out]
      exact ⟨rfl, HR.out, HB.out⟩

theorem put_any (v n : Int) (big : Bool) (w : World) (h0 : 0 ≤ v) :
    Calls Try.prog 31 #[.int .u64 v, .int .i64 n, .bool big] w (Made (putL v n big) w) := by
  cases h : wid n
  · have e : putL v n big = [] := by simp [putL, h]
    rw [e]
    exact (put_no v n big w h).mono fun e w' ⟨h1, h2⟩ => ⟨none, 0, h1, OB.nil, h2 ▸ Below.refl _ _⟩
  · obtain ⟨N, rfl⟩ : ∃ N : Nat, n = N := ⟨n.toNat, by have := wid_cases h; omega⟩
    obtain ⟨V, rfl⟩ : ∃ N : Nat, v = N := ⟨v.toNat, by omega⟩
    have hN8 : N ≤ 8 := by have := wid_cases h; omega
    have e : putL V N big = putB V N big := by simp [putL, h]
    rw [e]
    refine (put_yes V N big w h).mono fun e w' ⟨h1, h2, h3⟩ => ?_
    have hlen := length_putB V N big
    refine ⟨some ⟨w.heap.size, 0, none⟩, N, by rw [hlen]; exact h1, ⟨by simp, .inr ?_⟩, h3⟩
    obtain ⟨c, hb, hn, hc⟩ := h2
    rw [hlen]
    refine ⟨w.heap.size, N, c, rfl, Nat.le_refl _, hb, Nat.le_refl _, by unfold maxLen; omega, by omega, ?_⟩
    apply List.ext_getElem?
    intro i
    by_cases hi : i < N
    · rw [List.getElem?_take_of_lt (by omega), Array.getElem?_toList, hc i hi]
      have := putB_at V N i big hi
      simp [wrote, hi, this, byt]
    · rw [List.getElem?_eq_none (by simp; omega), List.getElem?_eq_none (by simp; omega)]

/-- The same, where the width is known: as many bytes as asked for. -/
theorem put_wide (v : Int) (n : Nat) (big : Bool) (w : World) (h : wid n = true) (h0 : 0 ≤ v) :
    Calls Try.prog 31 #[.int .u64 v, .int .i64 n, .bool big] w fun e w' => ∃ A c, e = .returned (.slice A n c) ∧ OB w' w.heap.size 5 A n c (putB v.toNat n big) ∧ Below w.heap.size w w' := by
  refine (put_any v n big w h0).mono fun e w' ⟨A, c, h1, h2, h3⟩ => ?_
  have e1 : putL v n big = putB v.toNat n big := by simp [putL, h]
  rw [e1, length_putB] at h1 h2
  exact ⟨A, c, h1, h2, h3⟩
end Go.Proofs.Ytfnaigeakfgpbaa
