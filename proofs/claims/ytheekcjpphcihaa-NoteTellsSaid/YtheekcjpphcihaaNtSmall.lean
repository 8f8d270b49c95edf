/-
  The contract of bezantlaw11.small: 1 at notes that are few and short, else 0.
-/
import Derived.Test.YtheekcjpphcihaaRows
import Derived.Test.YtheekcjpphcihaaNtMem
import Derived.Lib.Hide
namespace Go.Proofs.Ytheekcjpphcihaa
open Go.RowKit

/-- Few and short. -/
def ntSm (L : List Nt) : Bool := decide (L.length ≤ 40) && L.all fun s => decide (s.name.length ≤ 500) && decide (s.desc.length ≤ 500)
def ntSmI (L : List Nt) : Int := if ntSm L then 1 else 0
theorem ntSmI_no {L : List Nt} (h : ntSm L = false) : ntSmI L = 0 := by simp [ntSmI, h]
theorem ntSmI_yes {L : List Nt} (h : ntSm L = true) : ntSmI L = 1 := by simp [ntSmI, h]
theorem ntSm_len {L : List Nt} (h : ntSm L = true) (big : Bool) : (ntsB big L).length ≤ 100000 ∧ L.length ≤ 40 ∧ ∀ s ∈ L, s.name.length ≤ 500 ∧ s.desc.length ≤ 500 := by
  unfold ntSm at h
  rw [Bool.and_eq_true, List.all_eq_true] at h
  have h1 : L.length ≤ 40 := of_decide_eq_true h.1
  have h2 : ∀ s ∈ L, s.name.length ≤ 500 ∧ s.desc.length ≤ 500 := fun s hs => by
    have := h.2 s hs
    rw [Bool.and_eq_true] at this
    exact ⟨of_decide_eq_true this.1, of_decide_eq_true this.2⟩
  refine ⟨?_, h1, h2⟩
  have := ntsB_len_le big 1018 L (fun s hs => by
    obtain ⟨h3, h4⟩ := h2 s hs
    have := fil_le s.name.length
    have := fil_le s.desc.length
    unfold Nt.size; omega)
  have h5 : L.length * 1018 ≤ 40 * 1018 := Nat.mul_le_mul_right _ h1
  omega

set_option maxHeartbeats 1000000 in
theorem small_any (A : Option Addr) (n c : Nat) (L : List Nt) (B : Nat) (w : World) (h : ZN w B A n c L) :
    Calls Try.prog 6 #[.slice A n c] w fun e w' => e = .returned (.int .i64 (ntSmI L)) ∧ w = w' := by
  have HS := Lib.hid h
  have HL := Lib.hid h.len
  have hc := h.cap
  have hm := h.max
  unfold maxLen at hm
  clear h
  by_cases hbig : 40 < n
  · have e : Hid (ntSmI L = 0) := Lib.hid (ntSmI_no <| by unfold ntSm; rw [decide_eq_false (by rw [← HL.out]; omega)]; rfl)
    go_enter Try.func6, Try.ntmps6
    go_wp2
    go_ret
    exact ⟨by rw [e.out]; rfl, rfl⟩
  · go_enter Try.func6, Try.ntmps6
    go_wp2
    go_loop [3] (fun i => ∃ k : Nat, k ≤ n ∧ i = .int .i64 k ∧ Hid (∀ j (hj : j < L.length), j < k → L[j].name.length ≤ 500 ∧ L[j].desc.length ≤ 500)) (fun i => n - (intOf i).toNat)
    case atStart => exact ⟨0, Nat.zero_le _, rfl, Lib.hid fun j _ hj => absurd hj (by omega)⟩
    case round =>
      obtain ⟨k, hk, rfl, HK⟩ := hrel
      by_cases hlt : k < n
      · obtain ⟨b, o, rfl⟩ := HS.out.pos (by omega)
        have hkl : k < L.length := by rw [← HL.out]; exact hlt
        obtain ⟨A1, n1, c1, A2, n2, c2, -, ⟨p0, p1, -⟩, r1, r2⟩ := HS.out.at hkl
        have HN1 := Lib.hid r1.len
        have HN2 := Lib.hid r2.len
        have HKl := Lib.hid hkl
        clear r1 r2
        by_cases h1 : 500 < n1
        · have e : Hid (ntSmI L = 0) := Lib.hid (ntSmI_no <| by
            cases hs : ntSm L
            · rfl
            · have := ((ntSm_len hs false).2.2 _ (List.getElem_mem HKl.out)).1
              have := HN1.out
              omega)
          go_wp2
          go_ret
          exact ⟨by rw [e.out]; rfl, rfl⟩
        · by_cases h2 : 500 < n2
          · have e : Hid (ntSmI L = 0) := Lib.hid (ntSmI_no <| by
              cases hs : ntSm L
              · rfl
              · have := ((ntSm_len hs false).2.2 _ (List.getElem_mem HKl.out)).2
                have := HN2.out
                omega)
            go_wp2
            go_ret
            exact ⟨by rw [e.out]; rfl, rfl⟩
          · have HK2 : Hid (∀ j (hj : j < L.length), j < k + 1 → L[j].name.length ≤ 500 ∧ L[j].desc.length ≤ 500) := Lib.hid fun j hjl hj => by
              by_cases e : j < k
              · exact HK.out j hjl e
              · have : j = k := by omega
                subst this
                exact ⟨by rw [← HN1.out]; omega, by rw [← HN2.out]; omega⟩
            go_wp2
            go_round
            case rel => exact ⟨k + 1, by omega, by go_num, HK2⟩
            case measure => simp [intOf]; omega
      · have e : Hid (ntSmI L = 1) := Lib.hid (ntSmI_yes <| by
          unfold ntSm
          rw [Bool.and_eq_true, List.all_eq_true]
          refine ⟨decide_eq_true (by rw [← HL.out]; omega), fun s hs => ?_⟩
          obtain ⟨j, hj, rfl⟩ := List.getElem_of_mem hs
          obtain ⟨h1, h2⟩ := HK.out j hj (by have := HL.out; omega)
          rw [Bool.and_eq_true]
          exact ⟨decide_eq_true h1, decide_eq_true h2⟩)
        go_wp2
        go_ret
        exact ⟨by rw [e.out]; rfl, rfl⟩
end Go.Proofs.Ytheekcjpphcihaa
