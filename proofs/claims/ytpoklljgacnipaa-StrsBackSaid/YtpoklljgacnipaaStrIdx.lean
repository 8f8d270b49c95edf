/-
  The contracts of bytes.IndexByte, strings.IndexByte and strs.areNames: where the first 0 is; whether none has one.
-/
import Derived.Test.YtpoklljgacnipaaRows
import Derived.Test.YtpoklljgacnipaaMem
import Derived.Test.YtpoklljgacnipaaStrs
import Derived.Test.YtpoklljgacnipaaRet
import Derived.Lib.BytesEntry
import Derived.Laws.Entries
namespace Go.Proofs.Ytpoklljgacnipaa
open Go.RowKit

/-- The bytes as the library's reader has them. -/
theorem bytes_of (l : Bs) : Lib.bytesOf (l.map fun b => (b.toNat : Int)) = l := by
  simp [Lib.bytesOf, List.map_map, Function.comp_def]

theorem bidx_zero (a : Addr) (c : Nat) (w : World) : (Extern.BytealgIndexByte.indexByte #[.slice (some a) 0 c, .int .u8 0]).run Try.prog w = .ok (.int .i64 (Lib.indexByte [] 0)) w := by rfl

set_option maxHeartbeats 400000 in
theorem bidx_any (A : Option Addr) (n c : Nat) (l : Bs) (B : Nat) (w : World) (h : RB w B A n c l) :
    Calls Try.prog 13 #[.slice A n c, .int .u8 0] w fun e w' => e = .returned (.int .i64 (Lib.indexByte l 0)) ∧ w = w' := by
  rcases A with _ | ⟨b, off, sp⟩
  · have hl : l = [] := by
      rcases Nat.eq_zero_or_pos n with h0 | h0
      · exact List.eq_nil_of_length_eq_zero (by rw [← h.len]; exact h0)
      · obtain ⟨_, _, e, _⟩ := h.pos h0
        cases e
    subst hl
    clear h
    go_enter Try.func13, Try.ntmps13
    go_wp2
    rw [run_callFunc_extern Try.func15 (by kernel_rfl) (by kernel_rfl) (by kernel_rfl) (e := Extern.BytealgIndexByte.indexByte) (by kernel_rfl), Lib.run_indexByteNil w n c 0]
    simp only [Result.andThen]
    rw [Oper.upon_value]
    go_wp2
    go_ret
    exact ⟨rfl, rfl⟩
  · have run : (Extern.BytealgIndexByte.indexByte #[.slice (some ⟨b, off, sp⟩) n c, .int .u8 0]).run Try.prog w = .ok (.int .i64 (Lib.indexByte l 0)) w := by
      rcases Nat.eq_zero_or_pos n with h0 | h0
      · have hl : l = [] := List.eq_nil_of_length_eq_zero (by rw [← h.len]; exact h0)
        subst hl
        subst h0
        exact bidx_zero _ _ _
      · obtain ⟨b', off', e, _, hc⟩ := h.pos h0
        injection e with e
        obtain ⟨rfl, rfl, rfl⟩ := Addr.mk.inj e
        have := Lib.run_indexByteSlice (P := Try.prog) w b off n c (l.map fun b => (b.toNat : Int)) (by simp [h.len]) (fun i hi => by
          rw [hc i (by rw [← h.len]; exact hi)]
          simp [List.getElem?_eq_getElem (show i < l.length by rw [← h.len]; exact hi)]) 0
        rw [bytes_of] at this
        exact this
    clear h
    have R := Lib.hid run
    clear run
    go_enter Try.func13, Try.ntmps13
    go_wp2
    rw [run_callFunc_extern Try.func15 (by kernel_rfl) (by kernel_rfl) (by kernel_rfl) (e := Extern.BytealgIndexByte.indexByte) (by kernel_rfl), R.out]
    simp only [Result.andThen]
    rw [Oper.upon_value]
    go_wp2
    go_ret
    exact ⟨rfl, rfl⟩

theorem lidx_any (s : ByteArray) (w : World) :
    Calls Try.prog 17 #[.string s, .int .u8 0] w fun e w' => e = .returned (.int .i64 (Lib.indexByte s.data.toList 0)) ∧ w = w' := by
  have R := Lib.hid (Lib.run_indexByteString (P := Try.prog) s 0 w)
  go_enter Try.func17, Try.ntmps17
  go_wp2
  rw [run_callFunc_extern Try.func18 (by kernel_rfl) (by kernel_rfl) (by kernel_rfl) (e := Extern.BytealgIndexByte.indexByte) (by kernel_rfl), R.out]
  simp only [Result.andThen]
  rw [Oper.upon_value]
  go_wp2
  go_ret
  exact ⟨rfl, rfl⟩

theorem sidx_any (s : ByteArray) (w : World) :
    Calls Try.prog 16 #[.string s, .int .u8 0] w fun e w' => e = .returned (.int .i64 (Lib.indexByte s.data.toList 0)) ∧ w = w' := by
  go_enter Try.func16, Try.ntmps16
  go_wp2_with (go_at_call 17; refine (lidx_any _ _).mono ?_; rintro e w' ⟨rfl, rfl⟩)
  go_ret
  exact ⟨rfl, rfl⟩

set_option maxHeartbeats 400000 in
theorem areNames_any (A : Option Addr) (n c : Nat) (L : List Bs) (B : Nat) (w : World) (h : SS w B A n c L) :
    Calls Try.prog 14 #[.slice A n c] w fun e w' => e = .returned (.bool (areN L)) ∧ w = w' := by
  have HS := Lib.hid h
  have HL := Lib.hid h.len
  have hc := h.cap
  have hm := h.max
  unfold maxLen at hm
  clear h
  go_enter Try.func14, Try.ntmps14
  go_wp2
  go_loop [7] (fun i => ∃ k : Nat, k ≤ n ∧ i = .int .i64 k ∧ Hid (∀ j, j < k → noZero (L.getD j []) = true)) (fun i => n - (intOf i).toNat)
  case atStart => exact ⟨0, Nat.zero_le _, rfl, Lib.hid fun j hj => absurd hj (by omega)⟩
  case round =>
    obtain ⟨k, hk, rfl, HK⟩ := hrel
    by_cases hlt : k < n
    · obtain ⟨b, off, rfl, hb, hcell⟩ := HS.out.pos (by omega)
      have hkL : k < L.length := by rw [← HL.out]; exact hlt
      have q := hcell k hkL
      have hi := indexByte_name (L.getD k [])
      have HM := Lib.hid (getD_mem hkL)
      have hl := bstr_list (L.getD k [])
      have HC : Hid (∀ w, Calls Try.prog 16 #[.string (bstr (L.getD k [])), .int .u8 0] w fun e w' => e = .returned (.int .i64 (Lib.indexByte (L.getD k []) 0)) ∧ w = w') := fun w => by
        have := sidx_any (bstr (L.getD k [])) w
        rw [hl] at this
        exact this
      have HI := Lib.hid hi
      clear hcell hb hkL hi hl
      generalize bstr (L.getD k []) = S at q HC
      generalize Lib.indexByte (L.getD k []) 0 = r at HC HI
      by_cases h0 : r < 0
      · go_wp2_with (go_at_call 16; refine (HC.out _).mono ?_; rintro e w' ⟨rfl, rfl⟩)
        go_round
        case rel =>
          refine ⟨k + 1, by omega, by go_num, Lib.hid fun j hj => ?_⟩
          by_cases e : j < k
          · exact HK.out j e
          · have : j = k := by omega
            subst this
            exact HI.out.1 h0
        case measure => simp [intOf]; omega
      · have E : Hid (areN L = false) := by
          refine Lib.hid ?_
          have : noZero (L.getD k []) = false := by
            cases hz : noZero (L.getD k [])
            · rfl
            · exact absurd (HI.out.2 hz) h0
          unfold areN
          rw [List.all_eq_false]
          exact ⟨_, HM.out, by rw [this]; decide⟩
        go_wp2_with (go_at_call 16; refine (HC.out _).mono ?_; rintro e w' ⟨rfl, rfl⟩)
        go_ret
        exact ⟨by rw [E.out]; rfl, rfl⟩
    · have E : Hid (areN L = true) := Lib.hid (List.all_eq_true.2 (all_of_getD fun j hj => HK.out j (by rw [← HL.out] at hj; omega)))
      go_wp2
      go_ret
      exact ⟨by rw [E.out]; rfl, rfl⟩
end Go.Proofs.Ytpoklljgacnipaa
