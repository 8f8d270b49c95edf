/-
  The contracts of bezantlaw13.small (1 at definitions and needs that are few and short, else 0), of Pick and of Code; what Put and reading answer, told without cases.
-/
import Derived.Test.YtfnaigeakfgpbaaRows
import Derived.Test.YtfnaigeakfgpbaaVeMem
import Derived.Lib.Hide
import Derived.Test.YtfnaigeakfgpbaaRet
import Derived.WalkKit
import Derived.Test.YtfnaigeakfgpbaaVePutMath
import Derived.Test.YtfnaigeakfgpbaaVeAllA
import Derived.Test.YtfnaigeakfgpbaaRefAllA
import Derived.Test.YtfnaigeakfgpbaaScope
namespace Go.Proofs.Ytfnaigeakfgpbaa
open Go.RowKit

/-- Few and short. -/
def veSm1 (L : List Ve) : Bool := decide (L.length ≤ 40) && L.all fun e => decide (e.p.length ≤ 100)
def veSm (L M : List Ve) : Bool := veSm1 L && veSm1 M
def veSmI (L M : List Ve) : Int := if veSm L M then 1 else 0
theorem veSmI_no {L M : List Ve} (h : veSm L M = false) : veSmI L M = 0 := by simp [veSmI, h]
theorem veSmI_yes {L M : List Ve} (h : veSm L M = true) : veSmI L M = 1 := by simp [veSmI, h]
theorem veSm1_of {L : List Ve} (h : veSm1 L = true) : L.length ≤ 40 ∧ ∀ e ∈ L, e.p.length ≤ 100 := by
  unfold veSm1 at h
  rw [Bool.and_eq_true, List.all_eq_true] at h
  exact ⟨of_decide_eq_true h.1, fun e he => of_decide_eq_true (h.2 e he)⟩
theorem veSm1_yes {L : List Ve} (h : L.length ≤ 40) (h2 : ∀ j (hj : j < L.length), L[j].p.length ≤ 100) : veSm1 L = true := by
  unfold veSm1
  rw [Bool.and_eq_true, List.all_eq_true]
  refine ⟨decide_eq_true h, fun e he => ?_⟩
  obtain ⟨j, hj, rfl⟩ := List.getElem_of_mem he
  exact decide_eq_true (h2 j hj)
theorem veSm1_len {K : VK} (hK : K.Is) (big : Bool) {L : List Ve} (h : veSm1 L = true) : (vsB K big L).length ≤ 100000 := by
  obtain ⟨h1, h2⟩ := veSm1_of h
  obtain ⟨-, hz, -, hS, -, -, -⟩ := K_small hK
  have key : ∀ k, k ≤ L.length → (vsP K big L k).length ≤ k * 1620 := by
    intro k
    induction k with
    | zero => intro _; simp [vsP]
    | succ k ih =>
      intro hk
      rw [len_vsP_succ hK]
      have := ih (by omega)
      have hp : (veAt L k).p.length ≤ 100 := by
        have hkl : k < L.length := by omega
        rw [show veAt L k = L[k] by simp [veAt, hkl]]
        exact h2 _ (List.getElem_mem hkl)
      have : (veAt L k).p.length * K.z ≤ 100 * 16 := Nat.mul_le_mul hp hz
      rw [Nat.succ_mul]
      omega
  have := key L.length (Nat.le_refl _)
  have h5 : L.length * 1620 ≤ 40 * 1620 := Nat.mul_le_mul_right _ h1
  unfold vsB
  omega

set_option maxRecDepth 100000 in
set_option maxHeartbeats 1000000 in
theorem small_any (A A' : Option Addr) (n c n' c' : Nat) (L M : List Ve) (B : Nat) (w : World) (h : ZV vmD w B A n c L) (h' : ZV vmN w B A' n' c' M) :
    Calls Try.prog 6 #[.slice A n c, .slice A' n' c'] w fun e w' => e = .returned (.int .i64 (veSmI L M)) ∧ w = w' := by
  have HS := Lib.hid h
  have HL := Lib.hid h.len
  have HS' := Lib.hid h'
  have HL' := Lib.hid h'.len
  have hc := h.cap
  have hm := h.max
  have hc' := h'.cap
  have hm' := h'.max
  unfold maxLen at hm hm'
  clear h h'
  by_cases hbig : 40 < n ∨ 40 < n'
  · have e : Hid (veSmI L M = 0) := Lib.hid (veSmI_no <| by
      cases hs : veSm L M
      · rfl
      · unfold veSm at hs
        rw [Bool.and_eq_true] at hs
        have h1 := (veSm1_of hs.1).1
        have h2 := (veSm1_of hs.2).1
        have := HL.out
        have := HL'.out
        omega)
    by_cases h1 : 40 < n
    · clear hbig
      go_enter Try.func6, Try.ntmps6
      go_wp2
      go_ret
      exact ⟨by rw [e.out]; rfl, rfl⟩
    · have h2 : 40 < n' := by omega
      clear hbig
      go_enter Try.func6, Try.ntmps6
      go_wp2
      go_ret
      exact ⟨by rw [e.out]; rfl, rfl⟩
  · have hb1 : ¬ 40 < n := by omega
    have hb2 : ¬ 40 < n' := by omega
    clear hbig
    go_enter Try.func6, Try.ntmps6
    go_wp2
    go_loop [5] (fun i => ∃ k : Nat, k ≤ n ∧ i = .int .i64 k ∧ Hid (∀ j (hj : j < L.length), j < k → L[j].p.length ≤ 100)) (fun i => n - (intOf i).toNat)
    case atStart => exact ⟨0, Nat.zero_le _, rfl, Lib.hid fun j _ hj => absurd hj (by omega)⟩
    case round =>
      obtain ⟨k, hk, rfl, HK⟩ := hrel
      by_cases hlt : k < n
      · obtain ⟨b, o, rfl⟩ := HS.out.pos (by omega)
        have hkl : k < L.length := by rw [← HL.out]; exact hlt
        obtain ⟨A1, n1, c1, -, p, r1⟩ := HS.out.at hkl
        have p3 : w.cell? ⟨b, o + k * 4 + 3, none⟩ = some (.slice A1 n1 c1) := p 3 _ rfl
        have HN1 : Hid (n1 = L[k].p.length) := Lib.hid (by have := r1.len; simpa using this)
        clear r1 p
        by_cases h1 : 100 < n1
        · have e : Hid (veSmI L M = 0) := Lib.hid (veSmI_no <| by
            cases hs : veSm L M
            · rfl
            · unfold veSm at hs
              rw [Bool.and_eq_true] at hs
              have := (veSm1_of hs.1).2 _ (List.getElem_mem hkl)
              have := HN1.out
              omega)
          clear HN1 hkl
          go_wp2
          go_ret
          exact ⟨by rw [e.out]; rfl, rfl⟩
        · have HK2 : Hid (∀ j (hj : j < L.length), j < k + 1 → L[j].p.length ≤ 100) := Lib.hid fun j hjl hj => by
            by_cases e : j < k
            · exact HK.out j hjl e
            · have : j = k := by omega
              subst this
              rw [← HN1.out]; omega
          clear HN1 hkl
          go_wp2
          go_round
          case rel => exact ⟨k + 1, by omega, by go_num, HK2⟩
          case measure => simp [intOf]; omega
      · have HY : Hid (veSm1 L = true) := Lib.hid (veSm1_yes (by rw [← HL.out]; omega) fun j hj => HK.out j hj (by have := HL.out; omega))
        clear HK HS
        go_wp2
        go_loop [6] (fun i => ∃ k : Nat, k ≤ n' ∧ i = .int .i64 k ∧ Hid (∀ j (hj : j < M.length), j < k → M[j].p.length ≤ 100)) (fun i => n' - (intOf i).toNat)
        case atStart => exact ⟨0, Nat.zero_le _, rfl, Lib.hid fun j _ hj => absurd hj (by omega)⟩
        case round =>
          obtain ⟨q, hq, rfl, HK⟩ := hrel
          by_cases hlq : q < n'
          · obtain ⟨b, o, rfl⟩ := HS'.out.pos (by omega)
            have hkl : q < M.length := by rw [← HL'.out]; exact hlq
            obtain ⟨A1, n1, c1, -, p, r1⟩ := HS'.out.at hkl
            have p3 : w.cell? ⟨b, o + q * 2 + 1, none⟩ = some (.slice A1 n1 c1) := p 1 _ rfl
            have HN1 : Hid (n1 = M[q].p.length) := Lib.hid (by have := r1.len; simpa using this)
            clear r1 p
            by_cases h1 : 100 < n1
            · have e : Hid (veSmI L M = 0) := Lib.hid (veSmI_no <| by
                cases hs : veSm L M
                · rfl
                · unfold veSm at hs
                  rw [Bool.and_eq_true] at hs
                  have := (veSm1_of hs.2).2 _ (List.getElem_mem hkl)
                  have := HN1.out
                  omega)
              clear HN1 hkl
              go_wp2
              go_ret
              exact ⟨by rw [e.out]; rfl, rfl⟩
            · have HK2 : Hid (∀ j (hj : j < M.length), j < q + 1 → M[j].p.length ≤ 100) := Lib.hid fun j hjl hj => by
                by_cases e : j < q
                · exact HK.out j hjl e
                · have : j = q := by omega
                  subst this
                  rw [← HN1.out]; omega
              clear HN1 hkl
              go_wp2
              go_round
              case rel => exact ⟨q + 1, by omega, by go_num, HK2⟩
              case measure => simp [intOf]; omega
          · have HY2 : Hid (veSm1 M = true) := Lib.hid (veSm1_yes (by rw [← HL'.out]; omega) fun j hj => HK.out j hj (by have := HL'.out; omega))
            have e : Hid (veSmI L M = 1) := Lib.hid (veSmI_yes (by unfold veSm; rw [HY.out, HY2.out]; rfl))
            go_wp2
            go_ret
            exact ⟨by rw [e.out]; rfl, rfl⟩

/-- Pick: a number below m. -/
theorem pick_below (n : Int) (m : Nat) (w : World) (h0 : 0 < m) (h1 : m < 1000000) : Calls Try.prog 19 #[.int .i64 n, .int .i64 m] w fun r w' => ∃ k : Nat, k < m ∧ r = .returned (.int .i64 k) ∧ w = w' := by
  have k1 : -(m : Int) < n.tmod m := Int.lt_tmod_of_pos n (by omega)
  have k2 : n.tmod m < m := Int.tmod_lt_of_pos n (by omega)
  have hz : ((m : Int) == 0) = false := by simp; omega
  have hz1 : ¬ (m : Int) = -1 := by omega
  go_enter Try.func19, Try.ntmps19
  go_wp2
  · go_ret
    exact ⟨(n.tmod m + m).toNat, by omega, ret_int (by omega), rfl⟩
  · go_ret
    exact ⟨(n.tmod m).toNat, by omega, ret_int (by omega), rfl⟩

/-- Code at no error. -/
theorem code13_nil (w : World) : Calls Try.prog 11 #[.nilIface] w fun e w' => e = .returned (.int .i64 0) ∧ w = w' := by
  go_enter Try.func11, Try.ntmps11
  go_wp2
  go_ret
  exact ⟨rfl, rfl⟩

/-- Two of api's errors are the same if their numbers are. -/
theorem code13_eq (a b : Int) (w : World) : (binOp .eql 28 (.iface 60 (.int .i64 a)) (.iface 60 (.int .i64 b))).run Try.prog w = .ok (.bool (a == b)) w := by kernel_rfl

set_option maxRecDepth 100000 in
/-- Code at an error that is one of api's, itself. -/
theorem code13_some (c : Nat) (h0 : 0 < c) (h1 : c ≤ 12) (w : World) : Calls Try.prog 11 #[.iface 60 (.int .i64 c)] w fun e w' => e = .returned (.int .i64 c) ∧ w = w' := by
  go_enter Try.func11, Try.ntmps11
  go_wp2_with fail
  go_loop [3] (fun i => ∃ k : Nat, 1 ≤ k ∧ k ≤ c ∧ i = .int .i64 k) (fun i => 20 - (intOf i).toNat)
  case atStart => exact ⟨1, by omega, by omega, rfl⟩
  case round =>
    obtain ⟨k, hk1, hk, rfl⟩ := hrel
    have hq := code13_eq c k w
    by_cases e : k = c
    · subst e
      have hne : ((k : Int) == (k : Int)) = true := by simp
      rw [hne] at hq
      go_wp2
      go_ret
      exact ⟨rfl, rfl⟩
    · have hne : ((c : Int) == (k : Int)) = false := by simp; omega
      go_wp2
      go_round
      case rel => exact ⟨k + 1, by omega, by omega, by go_num⟩
      case measure => simp [intOf]; omega

/-- The bytes that Put tells (none, if they may not be), and its error. -/
def putX (K : VK) (L : List Ve) (big : Bool) : List UInt8 := if VMays L then vsB K big L else []
def putE (b : Bool) : Value := if b then .nilIface else .iface 60 (.int .i64 1)
theorem vput_uni {M : VM} {L : List Ve} {big : Bool} {w w' : World} {e : Ending} (h : VPut M L big w e w') :
    ∃ A c, e = .returned (.tuple #[.slice A (putX M.K L big).length c, putE (VMays L)]) ∧ RB w' w'.heap.size A (putX M.K L big).length c (putX M.K L big) ∧ Grow w w' := by
  rcases h with ⟨hm, A, c, he, ho, hg⟩ | ⟨hm, he, hg⟩
  · refine ⟨A, c, ?_, ?_, hg⟩
    · simp only [putX, putE, hm, if_true]; exact he
    · simp only [putX, hm, if_true]; exact ho.rb
  · refine ⟨none, 0, ?_, ?_, hg⟩
    · simp only [putX, putE, hm]; exact he
    · simp only [putX, hm]; exact RB.nil
theorem rput_uni {M : VM} {L : List Ve} {big : Bool} {w w' : World} {e : Ending} (h : RPut M L big w e w') :
    ∃ A c, e = .returned (.tuple #[.slice A (putX M.K L big).length c, .bool (VMays L)]) ∧ RB w' w'.heap.size A (putX M.K L big).length c (putX M.K L big) ∧ Grow w w' := by
  rcases h with ⟨hm, A, c, he, ho, hg⟩ | ⟨hm, he, hg⟩
  · refine ⟨A, c, ?_, ?_, hg⟩
    · simp only [putX, hm, if_true]; exact he
    · simp only [putX, hm, if_true]; exact ho.rb
  · refine ⟨none, 0, ?_, ?_, hg⟩
    · simp only [putX, hm]; exact he
    · simp only [putX, hm]; exact RB.nil

theorem vtParts_bd (G : Nat → Nat → Nat) (n z : Nat) : ∀ c p, (vtParts G n z c p).2.1 ≤ 4 ∧ (vtParts G n z c p).2.2 ≤ n ∧ ((vtParts G n z c p).2.1 = 0 → (vtParts G n z c p).2.2 = 0)
  | 0, p => by simp [vtParts]
  | c + 1, p => by
    have ih := vtParts_bd G n z c (p + G (p + (z - 4)) 4)
    rw [vtParts]
    by_cases h1 : n < p + z
    · rw [if_pos h1]
      exact ⟨by show 2 ≤ 4; decide, Nat.min_le_right _ _, fun h => absurd h (by show (2 : Nat) ≠ 0; decide)⟩
    · rw [if_neg h1]
      by_cases h2 : c = 0
      · rw [if_pos h2]
        by_cases h3 : G (p + (z - 4)) 4 = 0
        · rw [if_pos h3]; exact ⟨by show 0 ≤ 4; decide, Nat.zero_le _, fun _ => rfl⟩
        · rw [if_neg h3]; exact ⟨Nat.le_refl _, by show p ≤ n; omega, fun h => absurd h (by show (4 : Nat) ≠ 0; decide)⟩
      · rw [if_neg h2]
        by_cases h3 : G (p + (z - 4)) 4 < z
        · rw [if_pos h3]; exact ⟨Nat.le_refl _, by show p ≤ n; omega, fun h => absurd h (by show (4 : Nat) ≠ 0; decide)⟩
        · rw [if_neg h3]; exact ih
theorem vtAll_bd (K : VK) (G : Nat → Nat → Nat) (n : Nat) : ∀ f a, (vtAll K G n f a).2.1 ≤ 4 ∧ (vtAll K G n f a).2.2 ≤ n ∧ ((vtAll K G n f a).2.1 = 0 → (vtAll K G n f a).2.2 = 0)
  | 0, a => by simp [vtAll]
  | f + 1, a => by
    have ih := vtAll_bd K G n f (a + vNext K G a)
    have hp : (vtOne K G n a).2.1 ≤ 4 ∧ (vtOne K G n a).2.2 ≤ n ∧ ((vtOne K G n a).2.1 = 0 → (vtOne K G n a).2.2 = 0) := vtParts_bd _ _ _ _ _
    rw [vtAll]
    by_cases h1 : n < a + K.S
    · rw [if_pos h1]
      exact ⟨by show 2 ≤ 4; decide, Nat.min_le_right _ _, fun h => absurd h (by show (2 : Nat) ≠ 0; decide)⟩
    · rw [if_neg h1]
      by_cases h2 : vWell K G a = false
      · rw [if_pos h2]; exact ⟨Nat.le_refl _, by show a ≤ n; omega, fun h => absurd h (by show (4 : Nat) ≠ 0; decide)⟩
      · rw [if_neg h2]
        by_cases h3 : (vtOne K G n a).2.1 ≠ 0
        · rw [if_pos h3]; exact hp
        · rw [if_neg h3]
          by_cases h4 : vNext K G a = 0
          · rw [if_pos h4]; exact ⟨by show 0 ≤ 4; decide, Nat.zero_le _, fun _ => rfl⟩
          · rw [if_neg h4]
            by_cases h5 : vNext K G a < K.S
            · rw [if_pos h5]; exact ⟨Nat.le_refl _, by show a ≤ n; omega, fun h => absurd h (by show (4 : Nat) ≠ 0; decide)⟩
            · rw [if_neg h5]; exact ih
theorem vAns_bd (K : VK) (l : List UInt8) (big : Bool) : (vAns K l big).2.1 ≤ 4 ∧ (vAns K l big).2.2 ≤ l.length ∧ ((vAns K l big).2.1 = 0 → (vAns K l big).2.2 = 0) := by
  unfold vAns
  split
  · exact ⟨by decide, Nat.zero_le _, fun _ => rfl⟩
  · exact vtAll_bd K _ _ _ _

/-- All that is told (none, if something is wrong). -/
def allX (S : List Ve × Nat × Nat) : List Ve := if S.2.1 = 0 then S.1 else []
theorem vall_uni {M : VM} {S : List Ve × Nat × Nat} {w w' : World} {e : Ending} (h : VAll M S w e w') (h0 : S.2.1 = 0 → S.2.2 = 0) :
    ∃ A c er, e = .returned (.tuple #[.slice A (allX S).length c, er]) ∧ ZV M w' w'.heap.size A (allX S).length c (allX S) ∧ Err w' er S.2.1 S.2.2 ∧ Grow w w' := by
  rcases h with ⟨hs, A, c, he, hz, hg⟩ | ⟨hs, v, he, hE, hg⟩
  · refine ⟨A, c, .nilIface, ?_, ?_, .inl ⟨hs, h0 hs, rfl⟩, hg⟩
    · rw [allX, if_pos hs]; exact he
    · rw [allX, if_pos hs]; exact hz
  · refine ⟨none, 0, v, ?_, ?_, hE, hg⟩
    · rw [allX, if_neg hs]; exact he
    · rw [allX, if_neg hs]; exact ZV.nil
theorem rall_uni {M : VM} {S : List Ve × Nat × Nat} {w w' : World} {e : Ending} (h : RAll M S w e w') (h0 : S.2.1 = 0 → S.2.2 = 0) :
    ∃ A c, e = .returned (.tuple #[.slice A (allX S).length c, .int .i64 S.2.1, .int .i64 S.2.2]) ∧ ZV M w' w'.heap.size A (allX S).length c (allX S) ∧ Grow w w' := by
  rcases h with ⟨hs, A, c, he, hz, hg⟩ | ⟨hs, he, hg⟩
  · refine ⟨A, c, ?_, ?_, hg⟩
    · rw [allX, if_pos hs, hs, h0 hs]; exact he
    · rw [allX, if_pos hs]; exact hz
  · refine ⟨none, 0, ?_, ?_, hg⟩
    · rw [allX, if_neg hs]; exact he
    · rw [allX, if_neg hs]; exact ZV.nil

set_option maxRecDepth 100000 in
theorem list44 {l0 : List Value} (h0 : l0.length = 44) : ∃ x0 x1 x2 x3 x4 x5 x6 x7 x8 x9 x10 x11 x12 x13 x14 x15 x16 x17 x18 x19 x20 x21 x22 x23 x24 x25 x26 x27 x28 x29 x30 x31 x32 x33 x34 x35 x36 x37 x38 x39 x40 x41 x42 x43, l0 = [x0, x1, x2, x3, x4, x5, x6, x7, x8, x9, x10, x11, x12, x13, x14, x15, x16, x17, x18, x19, x20, x21, x22, x23, x24, x25, x26, x27, x28, x29, x30, x31, x32, x33, x34, x35, x36, x37, x38, x39, x40, x41, x42, x43] := by
  obtain ⟨x0, l1, e0, h1⟩ := uncons h0
  obtain ⟨x1, l2, e1, h2⟩ := uncons h1
  obtain ⟨x2, l3, e2, h3⟩ := uncons h2
  obtain ⟨x3, l4, e3, h4⟩ := uncons h3
  obtain ⟨x4, l5, e4, h5⟩ := uncons h4
  obtain ⟨x5, l6, e5, h6⟩ := uncons h5
  obtain ⟨x6, l7, e6, h7⟩ := uncons h6
  obtain ⟨x7, l8, e7, h8⟩ := uncons h7
  obtain ⟨x8, l9, e8, h9⟩ := uncons h8
  obtain ⟨x9, l10, e9, h10⟩ := uncons h9
  obtain ⟨x10, l11, e10, h11⟩ := uncons h10
  obtain ⟨x11, l12, e11, h12⟩ := uncons h11
  obtain ⟨x12, l13, e12, h13⟩ := uncons h12
  obtain ⟨x13, l14, e13, h14⟩ := uncons h13
  obtain ⟨x14, l15, e14, h15⟩ := uncons h14
  obtain ⟨x15, l16, e15, h16⟩ := uncons h15
  obtain ⟨x16, l17, e16, h17⟩ := uncons h16
  obtain ⟨x17, l18, e17, h18⟩ := uncons h17
  obtain ⟨x18, l19, e18, h19⟩ := uncons h18
  obtain ⟨x19, l20, e19, h20⟩ := uncons h19
  obtain ⟨x20, l21, e20, h21⟩ := uncons h20
  obtain ⟨x21, l22, e21, h22⟩ := uncons h21
  obtain ⟨x22, l23, e22, h23⟩ := uncons h22
  obtain ⟨x23, l24, e23, h24⟩ := uncons h23
  obtain ⟨x24, l25, e24, h25⟩ := uncons h24
  obtain ⟨x25, l26, e25, h26⟩ := uncons h25
  obtain ⟨x26, l27, e26, h27⟩ := uncons h26
  obtain ⟨x27, l28, e27, h28⟩ := uncons h27
  obtain ⟨x28, l29, e28, h29⟩ := uncons h28
  obtain ⟨x29, l30, e29, h30⟩ := uncons h29
  obtain ⟨x30, l31, e30, h31⟩ := uncons h30
  obtain ⟨x31, l32, e31, h32⟩ := uncons h31
  obtain ⟨x32, l33, e32, h33⟩ := uncons h32
  obtain ⟨x33, l34, e33, h34⟩ := uncons h33
  obtain ⟨x34, l35, e34, h35⟩ := uncons h34
  obtain ⟨x35, l36, e35, h36⟩ := uncons h35
  obtain ⟨x36, l37, e36, h37⟩ := uncons h36
  obtain ⟨x37, l38, e37, h38⟩ := uncons h37
  obtain ⟨x38, l39, e38, h39⟩ := uncons h38
  obtain ⟨x39, l40, e39, h40⟩ := uncons h39
  obtain ⟨x40, l41, e40, h41⟩ := uncons h40
  obtain ⟨x41, l42, e41, h42⟩ := uncons h41
  obtain ⟨x42, l43, e42, h43⟩ := uncons h42
  obtain ⟨x43, l44, e43, h44⟩ := uncons h43
  have e := List.eq_nil_of_length_eq_zero h44
  rw [e0, e1, e2, e3, e4, e5, e6, e7, e8, e9, e10, e11, e12, e13, e14, e15, e16, e17, e18, e19, e20, e21, e22, e23, e24, e25, e26, e27, e28, e29, e30, e31, e32, e33, e34, e35, e36, e37, e38, e39, e40, e41, e42, e43, e]
  exact ⟨_, _, _, _, _, _, _, _, _, _, _, _, _, _, _, _, _, _, _, _, _, _, _, _, _, _, _, _, _, _, _, _, _, _, _, _, _, _, _, _, _, _, _, _, rfl⟩
end Go.Proofs.Ytfnaigeakfgpbaa
