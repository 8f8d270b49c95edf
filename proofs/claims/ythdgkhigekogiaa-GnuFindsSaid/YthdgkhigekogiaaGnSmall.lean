/-
  The contract of small (layer 12's statements): 1 only where names are few and short.
-/
import Derived.Test.YthdgkhigekogiaaRows
import Derived.Test.YthdgkhigekogiaaStrs
namespace Go.Proofs.Ythdgkhigekogiaa
open Go.RowKit

/-- What small tells. -/
def SmallR (L : List Bs) (w : World) (e : Ending) (w' : World) : Prop :=
  w = w' ∧ (e = .returned (.int .i64 0) ∨ (e = .returned (.int .i64 1) ∧ L.length ≤ 60 ∧ ∀ s ∈ L, s.length ≤ 200))

set_option maxHeartbeats 400000 in
theorem small_any (A : Option Addr) (n c : Nat) (L : List Bs) (B : Nat) (w : World) (h : SS w B A n c L) :
    Calls Try.prog 5 #[.slice A n c] w (SmallR L w) := by
  have HS := Lib.hid h
  have HL := Lib.hid h.len
  have hc := h.cap
  have hm := h.max
  unfold maxLen at hm
  clear h
  by_cases hbig : 60 < n
  · go_enter Try.func5, Try.ntmps5
    go_wp2
    go_ret
    exact ⟨rfl, .inl rfl⟩
  · have hd : decide (60 < (n : Int)) = false := decide_eq_false (by omega)
    go_enter Try.func5, Try.ntmps5
    go_wp2
    go_loop [3] (fun i => ∃ k : Nat, k ≤ n ∧ i = .int .i64 k ∧ Hid (∀ j, j < k → (L.getD j []).length ≤ 200)) (fun i => n - (intOf i).toNat)
    case atStart => exact ⟨0, Nat.zero_le _, rfl, Lib.hid fun j hj => absurd hj (by omega)⟩
    case round =>
      obtain ⟨k, hk, rfl, HK⟩ := hrel
      by_cases hlt : k < n
      · obtain ⟨b, off, rfl, hb, hcell⟩ := HS.out.pos (by omega)
        have q := hcell k (by rw [← HL.out]; exact hlt)
        have hs := bstr_size (L.getD k [])
        have HN := Lib.hid hs
        have h2 := HS.out.size k
        unfold maxLen at h2
        rw [← hs] at h2
        clear hcell hs hb
        generalize bstr (L.getD k []) = S at q HN h2
        by_cases h5 : 200 < S.size
        · go_wp2
          go_ret
          exact ⟨rfl, .inl rfl⟩
        · go_wp2
          go_round
          case rel =>
            refine ⟨k + 1, by omega, by go_num, Lib.hid fun j hj => ?_⟩
            by_cases e : j < k
            · exact HK.out j e
            · have : j = k := by omega
              subst this
              have := HN.out
              omega
          case measure => simp [intOf]; omega
      · go_wp2
        go_ret
        refine ⟨rfl, .inr ⟨rfl, by rw [← HL.out]; omega, all_of_getD fun j hj => HK.out j (by rw [← HL.out] at hj; omega)⟩⟩
end Go.Proofs.Ythdgkhigekogiaa
