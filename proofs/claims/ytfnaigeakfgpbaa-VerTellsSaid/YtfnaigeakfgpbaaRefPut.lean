/-
  The contract of the document's own Put (layer 1): the same bytes as wire.Put's.
-/
import Derived.Test.YtfnaigeakfgpbaaRefA
import Derived.Test.YtfnaigeakfgpbaaWirePut
namespace Go.Proofs.Ytfnaigeakfgpbaa
open Go.RowKit

theorem low_snoc : ∀ (n v : Nat), low (n + 1) v = low n v ++ [UInt8.ofNat (v / 256 ^ n)]
  | 0, v => by simp [low]
  | n + 1, v => by
    rw [low, low_snoc n (v / 256), low, List.cons_append, Nat.div_div_eq_div_mul, Nat.pow_succ, Nat.mul_comm 256]

theorem byt_ofNat (y : Nat) : byt (UInt8.ofNat y) = .int .u8 ((y : Int) % 256) := by
  unfold byt; rw [toNat_ofNat8]; simp
theorem RB.one (w : World) (t : TypeId) (y : Nat) : RB (w.alloc (.cells #[.int .u8 ((y : Int) % 256)] t)) (w.heap.size + 1) (some ⟨w.heap.size, 0, none⟩) 1 1 [UInt8.ofNat y] := by
  rw [← byt_ofNat]; exact RB.lit w t [UInt8.ofNat y] (by unfold maxLen; simp)
theorem OB.one (w : World) (base : Nat) (t : TypeId) (y : Nat) (hb : base ≤ w.heap.size) : OB (w.alloc (.cells #[.int .u8 ((y : Int) % 256)] t)) base t (some ⟨w.heap.size, 0, none⟩) 1 1 [UInt8.ofNat y] := by
  rw [← byt_ofNat]; exact OB.lit w base t [UInt8.ofNat y] (by unfold maxLen; simp) hb

set_option maxHeartbeats 400000 in
theorem refPut_yes (v n : Nat) (big : Bool) (w : World) (h : wid n = true) (hv : v < 18446744073709551616) :
    Calls Try.prog 33 #[.int .u64 v, .int .i64 n, .bool big] w (Made (putB v n big) w) := by
  have hn8 : n ≤ 8 := by have := wid_cases h; omega
  have H := Lib.hid h
  clear h
  cases big
  · go_enter Try.func33, Try.ntmps33
    go_wp2_with (go_at_call 44; refine (wide_any _ _).mono ?_; rintro e w' ⟨rfl, rfl⟩; rw [H.out])
    go_loopw [0, 8, 9] (fun x o i wr => ∃ (k : Nat) (A : Option Addr) (c : Nat), k ≤ n ∧ i = .int .i64 k ∧ x = .int .u64 (v / 256 ^ k : Nat) ∧ o = .slice A k c ∧ OB wr w.heap.size 5 A k c (low k v) ∧ Below w.heap.size w wr) (fun _ _ i _ => n - (intOf i).toNat)
    case atStart => exact ⟨0, none, 0, Nat.zero_le _, rfl, by simp, rfl, OB.nil, Below.refl _ _⟩
    case round =>
      obtain ⟨k, A, c, hk, rfl, rfl, rfl, hown, hbel⟩ := hrel
      have hy : v / 256 ^ k ≤ v := Nat.div_le_self _ _
      obtain ⟨y, hy0⟩ : ∃ y, y = v / 256 ^ k := ⟨_, rfl⟩
      rw [← hy0] at hy ⊢
      have HY := Lib.hid hy0
      have HO := Lib.hid hown
      have HB := Lib.hid hbel
      clear hy0 hown hbel
      by_cases hlt : k < n
      · have HL := Lib.hid (show low k v ++ [UInt8.ofNat y] = low (k + 1) v from (by rw [low_snoc, ← HY.out]))
        go_wp2_with (at_builtin; refine wpList_appendB _ rfl (.tmp 26) (.tmp 30) 24 rfl w.heap.size 5 Try.underlying24 (by kernel_rfl) A k c (low k v) rfl (HO.out.alloc _) _ _ 1 1 [UInt8.ofNat y] rfl (RB.one wr 5 y) (by omega) (by have := HB.out.size; simp; omega) ?_; intro A2 c2 w2 ho2 hb2; rw [HL.out] at ho2; have HO2 := Lib.hid ho2; have HB2 := Lib.hid hb2; clear ho2 hb2)
        go_roundw
        case rel => exact ⟨k + 1, A2, c2, by omega, by go_num, by rw [Nat.pow_succ, ← Nat.div_div_eq_div_mul, ← HY.out]; go_num, rfl, HO2.out, (HB.out.alloc HB.out.size _).trans HB2.out⟩
        case measure => simp [intOf]; omega
      · have HE : Hid (OB wr w.heap.size 5 A n c (putB v n false)) := by
          have e : k = n := by omega
          have := HO.out
          rw [e] at this
          exact this
        have e : k = n := by omega
        have HK := Lib.hid e
        clear e
        go_wp2
        go_ret
        refine ⟨A, c, ?_, ?_, HB.out⟩
        · rw [length_putB, ← HK.out]; rfl
        · rw [length_putB]; exact HE.out
  · go_enter Try.func33, Try.ntmps33
    go_wp2_with (go_at_call 44; refine (wide_any _ _).mono ?_; rintro e w' ⟨rfl, rfl⟩; rw [H.out])
    go_loopw [0, 8, 9] (fun x o i wr => ∃ (k : Nat) (A : Option Addr) (c : Nat), k ≤ n ∧ i = .int .i64 k ∧ x = .int .u64 (v / 256 ^ k : Nat) ∧ o = .slice A k c ∧ OB wr w.heap.size 5 A k c ((low k v).reverse) ∧ Below w.heap.size w wr) (fun _ _ i _ => n - (intOf i).toNat)
    case atStart => exact ⟨0, none, 0, Nat.zero_le _, rfl, by simp, rfl, OB.nil, Below.refl _ _⟩
    case round =>
      obtain ⟨k, A, c, hk, rfl, rfl, rfl, hown, hbel⟩ := hrel
      have hy : v / 256 ^ k ≤ v := Nat.div_le_self _ _
      obtain ⟨y, hy0⟩ : ∃ y, y = v / 256 ^ k := ⟨_, rfl⟩
      rw [← hy0] at hy ⊢
      have HY := Lib.hid hy0
      have HO := Lib.hid hown
      have HB := Lib.hid hbel
      clear hy0 hown hbel
      by_cases hlt : k < n
      · have HL := Lib.hid (show [UInt8.ofNat y] ++ (low k v).reverse = (low (k + 1) v).reverse from (by rw [low_snoc, List.reverse_append, ← HY.out]; rfl))
        go_wp2_with (at_builtin; refine wpList_appendB _ rfl (.tmp 23) (.tmp 24) 24 rfl w.heap.size 5 Try.underlying24 (by kernel_rfl) _ 1 1 [UInt8.ofNat y] rfl (OB.one wr w.heap.size 5 y HB.out.size) _ A k c ((low k v).reverse) rfl (HO.out.alloc _).rb (by omega) (by have := HB.out.size; simp; omega) ?_; intro A2 c2 w2 ho2 hb2; rw [HL.out] at ho2; have HO2 := Lib.hid ho2; have HB2 := Lib.hid hb2; clear ho2 hb2)
        go_roundw
        case rel => exact ⟨k + 1, A2, c2, by omega, by go_num, by rw [Nat.pow_succ, ← Nat.div_div_eq_div_mul, ← HY.out]; go_num, by rw [Nat.add_comm], by have := HO2.out; rwa [Nat.add_comm] at this, (HB.out.alloc HB.out.size _).trans HB2.out⟩
        case measure => simp [intOf]; omega
      · have HE : Hid (OB wr w.heap.size 5 A n c (putB v n true)) := by
          have e : k = n := by omega
          have := HO.out
          rw [e] at this
          exact this
        have e : k = n := by omega
        have HK := Lib.hid e
        clear e
        go_wp2
        go_ret
        refine ⟨A, c, ?_, ?_, HB.out⟩
        · rw [length_putB, ← HK.out]; rfl
        · rw [length_putB]; exact HE.out

theorem refPut_no (v n : Int) (big : Bool) (w : World) (h : wid n = false) :
    Calls Try.prog 33 #[.int .u64 v, .int .i64 n, .bool big] w fun e w' => e = .returned (.slice none 0 0) ∧ w = w' := by
  have H := Lib.hid h
  clear h
  go_enter Try.func33, Try.ntmps33
  go_wp2_with (go_at_call 44; refine (wide_any _ _).mono ?_; rintro e w' ⟨rfl, rfl⟩; rw [H.out])
  go_ret
  exact ⟨rfl, rfl⟩

theorem refPut_any (v n : Int) (big : Bool) (w : World) (h0 : 0 ≤ v) (hv : v ≤ 18446744073709551615) :
    Calls Try.prog 33 #[.int .u64 v, .int .i64 n, .bool big] w (Made (putL v n big) w) := by
  cases h : wid n
  · have e : putL v n big = [] := by simp [putL, h]
    rw [e]
    exact (refPut_no v n big w h).mono fun e w' ⟨h1, h2⟩ => ⟨none, 0, h1, OB.nil, h2 ▸ Below.refl _ _⟩
  · obtain ⟨N, rfl⟩ : ∃ N : Nat, n = N := ⟨n.toNat, by have := wid_cases h; omega⟩
    obtain ⟨V, rfl⟩ : ∃ N : Nat, v = N := ⟨v.toNat, by omega⟩
    have e : putL V N big = putB V N big := by simp [putL, h]
    rw [e]
    exact refPut_yes V N big w h (by omega)
end Go.Proofs.Ytfnaigeakfgpbaa
