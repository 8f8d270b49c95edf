/-
  Several texts in one: The contract of the statements' Few; The contract of the helper Code, at no error and at one of api's, itself; Small facts of a model's number; The walk of FileBack; From what the frame tells of a slice of bytes that came in to RB; What came in as a number, and as a slice of bytes, opened; What came in as a form, opened.
-/
import Derived.Test.YtlccbekalccahaaGreatDoorFbG9
import Derived.Test.YtlccbekalccahaaGreatDoorRows
import Derived.WalkKit
import Derived.Lib.Hide
import Derived.Test.YtlccbekalccahaaGreatDoorFbG14
import Derived.Test.YtlccbekalccahaaGreatDoorFbG29
import Derived.Test.YtlccbekalccahaaGreatDoorFbG2
import Derived.OpenShut
import Derived.Deep.SlicePairs
import Derived.Lib.SmallJoins
import Derived.Test.YtlccbekalccahaaGreatDoorFbG6

namespace Go.Proofs.YtlccbekalccahaaGreatDoor
open Go.RowKit

/-- How many bytes all of them have. -/
def Md.sum (m : Md) : Nat := (m.segs.map fun s => s.pl.own.length).sum + (m.secs.map fun s => s.pl.own.length).sum
/-- Whether a model has few of everything. -/
def Md.few (m : Md) : Nat := if 20 < m.segs.length then 0 else if 70 < m.secs.length then 0 else if 100000 < m.sum then 0 else 1
theorem sum_snoc {α : Type} (f : α → Nat) (l : List α) (k : Nat) (h : k < l.length) : ((l.take (k + 1)).map f).sum = ((l.take k).map f).sum + f l[k] := by
  rw [takeS l k h, List.map_append, List.sum_append]
  simp
theorem sum_le {α : Type} (f : α → Nat) (b : Nat) : ∀ (l : List α), (∀ a ∈ l, f a ≤ b) → (l.map f).sum ≤ l.length * b
  | [], _ => by simp
  | a :: r, h => by
    have := sum_le f b r fun x hx => h x (List.mem_cons_of_mem _ hx)
    have := h a (by simp)
    simp only [List.map_cons, List.sum_cons, List.length_cons, Nat.succ_mul]
    omega
theorem sum_take_le {α : Type} (f : α → Nat) (l : List α) (k : Nat) : ((l.take k).map f).sum ≤ (l.map f).sum := by
  have : (l.map f).sum = ((l.take k).map f).sum + ((l.drop k).map f).sum := by
    rw [← List.sum_append, ← List.map_append, List.take_append_drop]
  omega

set_option maxHeartbeats 1000000 in
theorem few_any (m : Md) (A1 A2 : Option Addr) (n1 c1 n2 c2 : Nat) (w : World) (g1 : ZR sgK w w.heap.size A1 n1 c1 m.segs) (g2 : ZR seK w w.heap.size A2 n2 c2 m.secs) (hsm0 : n1 ≤ 20 → n2 ≤ 70 → m.sum ≤ 4000000000000000000) :
    Calls Tryz.prog 7 #[.agg (mdC m (.slice A1 n1 c1) (.slice A2 n2 c2))] w fun e w' => e = .returned (.int .i64 (m.few : Nat)) ∧ Grow w w' := by
  obtain ⟨x0, x1, x2, x3, x4, x5, x6, x7, x10, hC⟩ : ∃ x0 x1 x2 x3 x4 x5 x6 x7 x10 : Value, mdC m (.slice A1 n1 c1) (.slice A2 n2 c2) = #[x0, x1, x2, x3, x4, x5, x6, x7, .slice A1 n1 c1, .slice A2 n2 c2, x10] := ⟨_, _, _, _, _, _, _, _, _, rfl⟩
  rw [hC]
  have hm1 := g1.max
  have hc1 := g1.cap
  have hm2 := g2.max
  have hc2 := g2.cap
  have HZ1 := Lib.hid g1
  have HZ2 := Lib.hid g2
  have HL1 := Lib.hid g1.len
  have HL2 := Lib.hid g2.len
  have E := Lib.hid (show m.few = if 20 < n1 then 0 else if 70 < n2 then 0 else if 100000 < m.sum then 0 else 1 by rw [g1.len, g2.len]; rfl)
  have ES : Hid (m.sum = (m.segs.map fun s => s.pl.own.length).sum + (m.secs.map fun s => s.pl.own.length).sum) := Lib.hid rfl
  generalize m.few = R at E ⊢
  generalize m.sum = S at E ES hsm0
  generalize m.segs = L1 at HZ1 HL1 ES
  generalize m.secs = L2 at HZ2 HL2 ES
  have HA : Hid (∀ k, ((L1.take k).map fun s => s.pl.own.length).sum ≤ S) := Lib.hid fun k => by
    have := sum_take_le (fun s : Sg => s.pl.own.length) L1 k
    have := ES.out
    omega
  have HB : Hid (∀ k, (L1.map fun s => s.pl.own.length).sum + ((L2.take k).map fun s => s.pl.own.length).sum ≤ S) := Lib.hid fun k => by
    have := sum_take_le (fun s : Se => s.pl.own.length) L2 k
    have := ES.out
    omega
  clear hC g1 g2
  unfold maxLen at hm1 hm2
  by_cases h1 : 20 < n1
  · have E2 := Lib.hid (show R = 0 by rw [E.out, if_pos h1])
    go_enter Tryz.func7, Tryz.ntmps7
    go_wp2
    go_ret
    exact ⟨by rw [E2.out]; rfl, Grow.of_alloc _ _⟩
  rw [if_neg h1] at E
  have d1 : decide (20 < n1) = false := decide_eq_false h1
  have d1' : decide ((20 : Int) < (n1 : Int)) = false := decide_eq_false (by omega)
  by_cases h2 : 70 < n2
  · have E2 := Lib.hid (show R = 0 by rw [E.out, if_pos h2])
    clear h1
    go_enter Tryz.func7, Tryz.ntmps7
    go_wp2
    go_ret
    exact ⟨by rw [E2.out]; rfl, Grow.of_alloc _ _⟩
  rw [if_neg h2] at E
  have d2 : decide (70 < n2) = false := decide_eq_false h2
  have d2' : decide ((70 : Int) < (n2 : Int)) = false := decide_eq_false (by omega)
  have HH : Hid (n1 ≤ 20 ∧ n2 ≤ 70) := Lib.hid ⟨by omega, by omega⟩
  have hsm := hsm0 (by omega) (by omega)
  clear h1 h2 hsm0
  go_enter Tryz.func7, Tryz.ntmps7
  go_wp2_with fail
  clear d1 d1' d2 d2'
  generalize hW : World.alloc _ _ = W0
  obtain ⟨b1, hg0⟩ := blk1 hW
  clear hW
  have HB1 := Lib.hid b1
  have HG0 := Lib.hid hg0
  have y8 := b1.at 8
  clear b1 hg0
  go_loop [3, 4] (fun x i => ∃ (k : Nat) (t : Nat), k ≤ n1 ∧ i = .int .i64 k ∧ x = .int .i64 (t : Nat) ∧ Hid (t = ((L1.take k).map fun s => s.pl.own.length).sum)) (fun _ i => n1 - (intOf i).toNat)
  case atStart => exact ⟨0, 0, by omega, rfl, rfl, Lib.hid (by simp)⟩
  case round =>
    obtain ⟨k, t, hk, rfl, rfl, HT⟩ := hrel
    by_cases hlt : k < n1
    · have hkl : k < L1.length := by rw [← HL1.out]; exact hlt
      obtain ⟨b, off, rfl, hb⟩ := HZ1.out.pos (by omega)
      obtain ⟨Ak, nk, ck, -, hcell, gk⟩ := HZ1.out.at hkl
      have t9 : W0.cell? ⟨b, off + k * 10 + 9, none⟩ = some (.slice Ak nk ck) := (Below.cell HG0.out hb).trans (hcell 9 _ rfl)
      have HS := Lib.hid (sum_snoc (fun s : Sg => s.pl.own.length) L1 k hkl)
      have hnk : L1[k].pl.own.length = nk := gk.len.symm
      have hle := HA.out (k + 1)
      rw [HS.out, ← HT.out] at hle
      simp only [hnk] at HS hle
      rw [← HT.out] at HS
      clear hcell gk hb hnk
      have z : IntKind.i64.wrap ((t : Int) + (nk : Int)) = ((t + nk : Nat) : Int) := by rw [IntKind.wrap_i64]; omega
      go_wp2
      go_round
      case rel => exact ⟨k + 1, t + nk, by omega, by go_num, by first | rfl | simp, Lib.hid HS.out.symm⟩
      case measure => simp [intOf]; omega
    · obtain rfl : n1 = k := by omega
      have HT1 : Hid (t = (L1.map fun s => s.pl.own.length).sum) := by
        have : L1.take n1 = L1 := by rw [List.take_of_length_le (by have := HL1.out; omega)]
        have h := HT.out
        rw [this] at h
        exact h
      have y9 := HB1.out.at 9
      clear HT
      go_wp2_with fail
      clear y8
      go_loop [3, 5] (fun x i => ∃ (k : Nat) (t' : Nat), k ≤ n2 ∧ i = .int .i64 k ∧ x = .int .i64 (t' : Nat) ∧ Hid (t' = t + ((L2.take k).map fun s => s.pl.own.length).sum)) (fun _ i => n2 - (intOf i).toNat)
      case atStart => exact ⟨0, t, by omega, rfl, rfl, Lib.hid (by simp)⟩
      case round =>
        obtain ⟨k, t', hk, rfl, rfl, HT⟩ := hrel
        by_cases hlt : k < n2
        · have hkl : k < L2.length := by rw [← HL2.out]; exact hlt
          obtain ⟨b, off, rfl, hb⟩ := HZ2.out.pos (by omega)
          obtain ⟨Ak, nk, ck, -, hcell, gk⟩ := HZ2.out.at hkl
          have t9 : W0.cell? ⟨b, off + k * 13 + 12, none⟩ = some (.slice Ak nk ck) := (Below.cell HG0.out hb).trans (hcell 12 _ rfl)
          have HS := Lib.hid (sum_snoc (fun s : Se => s.pl.own.length) L2 k hkl)
          have hnk : L2[k].pl.own.length = nk := gk.len.symm
          have hle := HB.out (k + 1)
          rw [HS.out, ← HT1.out, ← Nat.add_assoc, ← HT.out] at hle
          simp only [hnk] at HS hle
          have HS2 : Hid (t' + nk = t + ((L2.take (k + 1)).map fun s => s.pl.own.length).sum) := Lib.hid (by rw [HS.out, ← Nat.add_assoc, ← HT.out])
          clear hcell gk hb hnk HS
          have z : IntKind.i64.wrap ((t' : Int) + (nk : Int)) = ((t' + nk : Nat) : Int) := by rw [IntKind.wrap_i64]; omega
          go_wp2
          go_round
          case rel => exact ⟨k + 1, t' + nk, by omega, by go_num, by first | rfl | simp, HS2⟩
          case measure => simp [intOf]; omega
        · obtain rfl : n2 = k := by omega
          have HS : Hid (t' = S) := by
            have : L2.take n2 = L2 := by rw [List.take_of_length_le (by have := HL2.out; omega)]
            have h := HT.out
            rw [this, HT1.out, ← ES.out] at h
            exact h
          by_cases hb : 100000 < t'
          · have E2 := Lib.hid (show R = 0 by rw [E.out, ← HS.out, if_pos hb])
            have d : decide (100000 < t') = true := decide_eq_true hb
            have d' : decide ((100000 : Int) < (t' : Int)) = true := decide_eq_true (by omega)
            clear hb
            go_wp2
            go_ret
            exact ⟨by rw [E2.out]; rfl, HG0.out⟩
          · have E2 := Lib.hid (show R = 1 by rw [E.out, ← HS.out, if_neg hb])
            have d : decide (100000 < t') = false := decide_eq_false hb
            have d' : decide ((100000 : Int) < (t' : Int)) = false := decide_eq_false (by omega)
            clear hb
            go_wp2
            go_ret
            exact ⟨by rw [E2.out]; rfl, HG0.out⟩
end Go.Proofs.YtlccbekalccahaaGreatDoor

namespace Go.Proofs.YtlccbekalccahaaGreatDoor
open Go.RowKit

/-- Code at no error. -/
theorem code_nil (w : World) : Calls Tryz.prog 10 #[.nilIface] w fun e w' => e = .returned (.int .i64 0) ∧ w = w' := by
  go_enter Tryz.func10, Tryz.ntmps10
  go_wp2
  go_ret
  exact ⟨rfl, rfl⟩

/-- Two of api's errors are the same if their numbers are. -/
theorem eq_codes (a b : Int) (w : World) : (binOp .eql 37 (.iface 81 (.int .i64 a)) (.iface 81 (.int .i64 b))).run Tryz.prog w = .ok (.bool (a == b)) w := by kernel_rfl

set_option maxRecDepth 100000 in
/-- Code at an error that is one of api's, itself. -/
theorem code_some (c : Nat) (h0 : 0 < c) (h1 : c ≤ 12) (w : World) : Calls Tryz.prog 10 #[.iface 81 (.int .i64 c)] w fun e w' => e = .returned (.int .i64 c) ∧ w = w' := by
  go_enter Tryz.func10, Tryz.ntmps10
  go_wp2_with fail
  go_loop [3] (fun i => ∃ k : Nat, 1 ≤ k ∧ k ≤ c ∧ i = .int .i64 k) (fun i => 20 - (intOf i).toNat)
  case atStart => exact ⟨1, by omega, by omega, rfl⟩
  case round =>
    obtain ⟨k, hk1, hk, rfl⟩ := hrel
    have hq := eq_codes c k w
    by_cases e : k = c
    · subst e
      have hne : ((k : Int) == (k : Int)) = true := by simp
      rw [hne] at hq
      go_wp2
      go_ret
      exact ⟨rfl, rfl⟩
    · have hne : ((c : Int) == (k : Int)) = false := by simp; omega
      go_wp2
      go_round
      case rel => exact ⟨k + 1, by omega, by omega, by go_num⟩
      case measure => simp [intOf]; omega
end Go.Proofs.YtlccbekalccahaaGreatDoor

namespace Go.Proofs.YtlccbekalccahaaGreatDoor
open Go.RowKit

theorem fstC_le {α : Type} {f : α → Nat} {b : Nat} (h : ∀ a, f a ≤ b) : ∀ l : List α, fstC f l ≤ b
  | [] => Nat.zero_le _
  | a :: r => by
    rw [fstC]
    split
    · exact fstC_le h r
    · exact h a
theorem Md.chk_le (m : Md) : m.chk ≤ 12 := by
  have h1 : ∀ s, m.segC s ≤ 12 := fun s => by unfold Md.segC; repeat (first | (split; omega) | omega | split)
  have h2 : ∀ s, m.secC s ≤ 12 := fun s => by unfold Md.secC; repeat (first | (split; omega) | omega | split)
  have h3 : m.segsC ≤ 12 := by
    unfold Md.segsC
    split
    · split <;> omega
    · exact fstC_le h1 _
  have h4 : m.secsC ≤ 12 := fstC_le h2 _
  have h5 : m.namesC ≤ 12 := by unfold Md.namesC; repeat (first | (split; omega) | omega | split)
  unfold Md.chk
  repeat (first | (split; omega) | omega | split)
theorem Md.planC_le (m : Md) : m.planC ≤ 12 := by
  have := m.chk_le
  unfold Md.planC
  split
  · exact this
  · split <;> omega
/-- The number of an error, or that there is none. -/
theorem code_of (c : Nat) (h : c ≤ 12) (w : World) : Calls Tryz.prog 10 #[eC c] w fun e w' => e = .returned (.int .i64 c) ∧ w = w' := by
  by_cases h0 : c = 0
  · subst h0
    exact code_nil w
  · rw [eC_some h0]
    exact code_some c (by omega) h w

theorem sum_small {m : Md} {n1 n2 : Nat} (l1 : n1 = m.segs.length) (l2 : n2 = m.secs.length) (hs1 : ∀ s ∈ m.segs, s.pl.own.length ≤ reachBytes) (hs2 : ∀ s ∈ m.secs, s.pl.own.length ≤ reachBytes) :
    n1 ≤ 20 → n2 ≤ 70 → m.sum ≤ 4000000000000000000 := fun h1 h2 => by
  have q1 := sum_le (fun s : Sg => s.pl.own.length) reachBytes m.segs hs1
  have q2 := sum_le (fun s : Se => s.pl.own.length) reachBytes m.secs hs2
  have e1 : m.segs.length * reachBytes ≤ 20 * reachBytes := Nat.mul_le_mul_right _ (by omega)
  have e2 : m.secs.length * reachBytes ≤ 70 * reachBytes := Nat.mul_le_mul_right _ (by omega)
  unfold Md.sum
  unfold reachBytes at q1 q2 e1 e2
  omega
end Go.Proofs.YtlccbekalccahaaGreatDoor

namespace Go.Proofs.YtlccbekalccahaaGreatDoor
open Go.RowKit
set_option maxRecDepth 100000

set_option maxHeartbeats 8000000 in
theorem fileBack_core (m : Md) (ok : m.Ok) (A1 A2 : Option Addr) (n1 c1 n2 c2 : Nat) (A : Option Addr) (n c : Nat) (l : List UInt8) (w : World) (g1 : ZR sgK w w.heap.size A1 n1 c1 m.segs) (g2 : ZR seK w w.heap.size A2 n2 c2 m.secs) (hr : RB w w.heap.size A n c l) (hd : Door w)
    (hs1 : ∀ s ∈ m.segs, s.pl.own.length ≤ reachBytes) (hs2 : ∀ s ∈ m.secs, s.pl.own.length ≤ reachBytes) :
    Calls Tryz.prog 5 #[.agg (mdC m (.slice A1 n1 c1) (.slice A2 n2 c2)), .slice A n c] w fun e w' => e = .returned (.bool true) ∧ Grow w w' := by
  have hsm := sum_small g1.len g2.len hs1 hs2
  have HF := Lib.hid (fun (w' : World) (hg : Grow w w') => few_any m A1 A2 n1 c1 n2 c2 w' (g1.grow hg) (g2.grow hg) hsm)
  have HE := Lib.hid (fun (w' : World) (hg : Grow w w') => encode_any m ok A1 A2 n1 c1 n2 c2 w' (g1.grow hg) (g2.grow hg))
  have HGd : Hid (m.planC = 0 → Good m) := Lib.hid fun h => ⟨ok, h, g1.owns, g2.owns⟩
  have HS := Lib.hid (fun (A3 A4 : Option Addr) (n3 c3 n4 c4 : Nat) (w' : World) (hg : Grow w w') h3 h4 => same_any m A1 A2 A3 A4 n1 c1 n2 c2 n3 c3 n4 c4 w' (g1.grow hg) (g2.grow hg) h3 h4)
  have HB := Lib.hid (fun h : Good m => parse_back m h)
  have HD := Lib.hid hd
  have HR := Lib.hid hr
  have hcp := hr.cap
  have hmx := hr.max
  have HLn := Lib.hid hr.len
  unfold maxLen at hmx
  unfold EncR at HE
  unfold BackR at HB
  clear g1 g2 ok hs1 hs2 hsm hd hr
  obtain ⟨x0, x1, x2, x3, x4, x5, x6, x7, x10, hC, hO⟩ : ∃ x0 x1 x2 x3 x4 x5 x6 x7 x10 : Value, (∀ s t, mdC m s t = #[x0, x1, x2, x3, x4, x5, x6, x7, s, t, x10]) ∧ (∀ p q i r j k, (#[x0, x1, x2, x3, x4, x5, x6, x7, .slice p i k, .slice q j r, x10] : Array Value).all (·.oneCell') = true) := ⟨_, _, _, _, _, _, _, _, _, fun _ _ => rfl, fun _ _ _ _ _ _ => by simp [Value.oneCell']⟩
  have HO := Lib.hid hO
  simp only [hC] at HF HE HS HB ⊢
  clear hC hO
  go_enter Tryz.func5, Tryz.ntmps5
  go_wp2_with fail
  generalize hW : World.alloc _ _ = W0
  obtain ⟨b1, hg0⟩ := blk1 hW
  clear hW
  have HM0 := Lib.hid b1
  have HG0 := Lib.hid hg0
  clear b1 hg0
  refine (up16 _ (HD.out.grow HG0.out)).mono ?_
  rintro e w1 ⟨rfl, hg⟩
  have HM1 := Lib.hid (HM0.out.grow hg)
  have HG1 : Hid (Grow w w1) := Lib.hid (HG0.out.trans hg)
  clear hg HM0 HG0
  obtain ⟨v0, v1, v2, v3, v4, v5, v6, v7, v8, v9, v10⟩ := HM1.out.c11
  go_wp2_with fail
  clear v0 v1 v2 v3 v4 v5 v6 v7 v8 v9 v10
  refine (HF.out _ HG1.out).mono ?_
  rintro e w2 ⟨rfl, hg⟩
  have HM2 := Lib.hid (HM1.out.grow hg)
  have HG2 : Hid (Grow w w2) := Lib.hid (HG1.out.trans hg)
  clear hg HM1 HG1 HF
  generalize m.few = few
  by_cases hf : few = 0
  · have d : ((few : Int) == 0) = true := by simp [hf]
    clear hf
    go_wp2
    go_ret
    exact ⟨rfl, HG2.out⟩
  have d : ((few : Int) == 0) = false := by simp; omega
  clear hf
  by_cases hn : 1000 < n
  · have d2 : decide ((1000 : Int) < (n : Int)) = true := decide_eq_true (by omega)
    go_wp2
    go_ret
    exact ⟨rfl, HG2.out⟩
  have d2 : decide ((1000 : Int) < (n : Int)) = false := decide_eq_false (by omega)
  obtain ⟨v0, v1, v2, v3, v4, v5, v6, v7, v8, v9, v10⟩ := HM2.out.c11
  go_wp2_with fail
  clear v0 v1 v2 v3 v4 v5 v6 v7 v8 v9 v10 d d2
  refine (HE.out _ HG2.out).mono ?_
  rintro e w3 (⟨hC0, g, L, rfl, hfi, hb, hge, hg⟩ | ⟨hC0, rfl, hg⟩)
  rotate_left
  · have HG3 : Hid (Grow w w3) := Lib.hid (HG2.out.trans hg)
    clear hC0 hg HE HS HB HM2 HG2
    go_wp2
    go_ret
    exact ⟨rfl, HG3.out⟩
  have HGo := Lib.hid (HGd.out hC0)
  have HB2 := Lib.hid (HB.out HGo.out)
  have HFi := Lib.hid hfi
  have hS : L.length ≤ 65536 := by have := HGo.out.eT; have := hfi.2; omega
  have HN3 := Lib.hid (hb.rb (Nat.le_trans hS (by decide)))
  have HM3 := Lib.hid (HM2.out.grow hg)
  have HG3 : Hid (Grow w w3) := Lib.hid (HG2.out.trans hg)
  have HD3 := Lib.hid (HD.out.grow HG3.out)
  have HLL : Hid (L.length = L.length) := Lib.hid rfl
  clear hC0 hfi hb hge hg HE HM2 HG2 HGd HB
  have HP := Lib.hid (HB2.out L [] HFi.out (by rw [List.append_nil]; exact hS) (some ⟨g, 0, none⟩) L.length L.length w3 (by rw [List.append_nil]; exact HN3.out) HD3.out)
  generalize hSe : L.length = S at HP HN3 hS ⊢
  have HSe := Lib.hid hSe
  clear hSe
  go_wp2_with fail
  refine HP.out.mono ?_
  rintro e w4 ⟨A3, n3, c3, A4, n4, c4, rfl, z3, z4, hg⟩
  have HZ3 := Lib.hid z3
  have HZ4 := Lib.hid z4
  have HM4 := Lib.hid (HM3.out.grow hg)
  have HN4 := Lib.hid (HN3.out.grow hg)
  have HG4 : Hid (Grow w w4) := Lib.hid (HG3.out.trans hg)
  clear z3 z4 hg HM3 HN3 HG3 HD3 HP
  go_wp2_with (refine wpList_store_row rfl 32 (.tmp 8) (.tmp 38) rfl w4.heap.size _ rfl rfl _ _ (Blk.new _ _ _) (by kernel_rfl) rfl (HO.out _ _ _ _ _ _) ?_; rw [World.setRow_alloc_new]; refine Hid.out ?_)
  generalize hW : World.alloc _ _ = W5
  obtain ⟨b5, hg⟩ := blk1 hW
  clear hW
  have HX5 := Lib.hid b5
  have HM5 := Lib.hid (HM4.out.grow hg)
  have HN5 := Lib.hid (HN4.out.grow hg)
  have HZ35 := Lib.hid ((HZ3.out.belowAt hg (Nat.le_refl _)).more hg.size)
  have HZ45 := Lib.hid ((HZ4.out.belowAt hg (Nat.le_refl _)).more hg.size)
  have HG5 : Hid (Grow w W5) := Lib.hid (HG4.out.trans hg)
  clear b5 hg HM4 HN4 HG4 HZ3 HZ4
  refine Lib.hid ?_
  obtain ⟨v0, v1, v2, v3, v4, v5, v6, v7, v8, v9, v10⟩ := HM5.out.c11
  obtain ⟨y0, y1, y2, y3, y4, y5, y6, y7, y8, y9, y10⟩ := HX5.out.c11
  go_wp2_with fail
  clear v0 v1 v2 v3 v4 v5 v6 v7 v8 v9 v10 y0 y1 y2 y3 y4 y5 y6 y7 y8 y9 y10 HX5
  refine (HS.out _ _ _ _ _ _ _ HG5.out HZ35.out HZ45.out).mono ?_
  rintro e w6 ⟨rfl, hg⟩
  have HM6 := Lib.hid (HM5.out.grow hg)
  have HN6 := Lib.hid (HN5.out.grow hg)
  have HG6 : Hid (Grow w w6) := Lib.hid (HG5.out.trans hg)
  clear hg HM5 HN5 HG5 HZ35 HZ45
  by_cases hbig : 65536 < S + n
  · have d2 : decide ((65536 : Int) < (S : Int) + (n : Int)) = true := decide_eq_true (by omega)
    go_wp2
    go_ret
    exact ⟨rfl, HG6.out⟩
  have d2 : decide ((65536 : Int) < (S : Int) + (n : Int)) = false := decide_eq_false (by omega)
  have HR6 := Lib.hid (HR.out.belowAt HG6.out (Nat.le_refl _))
  have HGs := Lib.hid HG6.out.size
  have HBg : Hid (S + n ≤ 65536) := Lib.hid (by omega)
  go_wp2_with (first
        | (at_builtin; refine wpList_appendB _ rfl (.tmp 56) (.tmp 57) 35 rfl w6.heap.size 5 Tryz.underlying35 (by kernel_rfl) _ 0 0 [] rfl (OB.lit w6 w6.heap.size 5 [] (Nat.zero_le _) (Nat.le_refl _)) w6.heap.size (some ⟨g, 0, none⟩) S S L rfl (HN6.out.belowAt (Grow.of_alloc w6 _) (Nat.le_refl _)) (by omega) (by simp) ?_; intro A5 c5 w7 ho7 hb7; have HO7 := Lib.hid ho7; have HG7 : Hid (Grow w6 w7) := (Grow.of_alloc w6 _).trans' hb7; clear ho7 hb7)
        | (at_builtin; refine wpList_appendB _ rfl (.tmp 58) (.tmp 59) 35 rfl w6.heap.size 5 Tryz.underlying35 (by kernel_rfl) A5 S c5 ([] ++ L) rfl (by have := HO7.out; rwa [Nat.zero_add] at this) w.heap.size A n c l rfl (HR6.out.belowAt HG7.out HGs.out) (by omega) HG7.out.size ?_; intro A6 c6 w8 ho8 hb8; have HO8 := Lib.hid ho8; have HG8 : Hid (Grow w6 w8) := HG7.out.trans' hb8; clear ho8 hb8))
  have HM8 := Lib.hid (HM6.out.grow HG8.out)
  have HGw8 : Hid (Grow w w8) := Lib.hid (HG6.out.trans HG8.out)
  have HP := Lib.hid (HB2.out L l HFi.out (by rw [List.length_append, HSe.out, ← HLn.out]; exact HBg.out) A6 (S + n) c6 w8 (by have := HO8.out.rb; rwa [List.nil_append] at this) (HD.out.grow HGw8.out))
  clear HM6 HG6 HN6 HR6 HO7 HG7 HO8 HG8 HGs d2 hbig
  refine HP.out.mono ?_
  rintro e w9 ⟨A7, n7, c7, A9, n9, c9, rfl, z3, z4, hg⟩
  have HZ3 := Lib.hid z3
  have HZ4 := Lib.hid z4
  have HM9 := Lib.hid (HM8.out.grow hg)
  have HG9 : Hid (Grow w w9) := Lib.hid (HGw8.out.trans hg)
  clear z3 z4 hg HM8 HGw8 HP HB2 HFi HLL
  go_wp2_with (refine wpList_store_row rfl 32 (.tmp 10) (.tmp 62) rfl w9.heap.size _ rfl rfl _ _ (Blk.new _ _ _) (by kernel_rfl) rfl (HO.out _ _ _ _ _ _) ?_; rw [World.setRow_alloc_new]; refine Hid.out ?_)
  generalize hW : World.alloc _ _ = W5
  obtain ⟨b5, hg⟩ := blk1 hW
  clear hW
  have HX5 := Lib.hid b5
  have HM5 := Lib.hid (HM9.out.grow hg)
  have HZ35 := Lib.hid ((HZ3.out.belowAt hg (Nat.le_refl _)).more hg.size)
  have HZ45 := Lib.hid ((HZ4.out.belowAt hg (Nat.le_refl _)).more hg.size)
  have HG5 : Hid (Grow w W5) := Lib.hid (HG9.out.trans hg)
  clear b5 hg HM9 HG9 HZ3 HZ4
  refine Lib.hid ?_
  obtain ⟨v0, v1, v2, v3, v4, v5, v6, v7, v8, v9, v10⟩ := HM5.out.c11
  obtain ⟨y0, y1, y2, y3, y4, y5, y6, y7, y8, y9, y10⟩ := HX5.out.c11
  go_wp2_with fail
  clear v0 v1 v2 v3 v4 v5 v6 v7 v8 v9 v10 y0 y1 y2 y3 y4 y5 y6 y7 y8 y9 y10 HX5
  refine (HS.out _ _ _ _ _ _ _ HG5.out HZ35.out HZ45.out).mono ?_
  rintro e w6 ⟨rfl, hg⟩
  have HG6 : Hid (Grow w w6) := Lib.hid (HG5.out.trans hg)
  clear hg HM5 HG5 HZ35 HZ45
  go_wp2
  go_ret
  exact ⟨rfl, HG6.out⟩
end Go.Proofs.YtlccbekalccahaaGreatDoor

namespace Go.Proofs.YtlccbekalccahaaGreatDoor
open Go.RowKit

theorem wf_u8 {n : Int} (h : (Lit.int .u8 n).wf = true) : 0 ≤ n ∧ n ≤ 255 := by
  simpa [Lit.wf, IntKind.bits, IntKind.signed] using bounds_u8 h
theorem wf_u64 {n : Int} (h : (Lit.int .u64 n).wf = true) : 0 ≤ n ∧ n ≤ 18446744073709551615 := bounds_u64 h
theorem wf_i64 {n : Int} (h : (Lit.int .i64 n).wf = true) : -9223372036854775808 ≤ n ∧ n ≤ 9223372036854775807 := bounds_i64 h

theorem rb_of_cells (w : World) (x : Addr) (len cap : Nat) (zs : List Int) (hl : len ≤ cap) (hm : cap ≤ maxLen) (hz : zs.length = cap)
    (hcell : ∀ i, i < zs.length → w.cell? (x.add i) = some (.int .u8 (zs.getD i 0))) (hwf : ∀ n ∈ zs, (Lit.int .u8 n).wf = true) :
    RB w w.heap.size (some x) len cap ((zs.take len).map fun n => UInt8.ofNat n.toNat) := by
  refine ⟨by simp; omega, hl, hm, fun hp => ?_⟩
  obtain ⟨b, off, spot⟩ := x
  have h0 := hcell 0 (by omega)
  have hspot : spot = none := by simpa [Addr.add] using World.cell?_spot h0
  subst hspot
  refine ⟨b, off, rfl, ?_, fun j hj => ?_⟩
  · rcases Nat.lt_or_ge b w.heap.size with h | h
    · exact h
    · simp [Addr.add, World.cell?, Array.getElem?_eq_none h] at h0
  · have hj' : j < len := by simp at hj; omega
    have e2 : (⟨b, off, none⟩ : Addr).add j = ⟨b, off + j, none⟩ := by unfold Addr.add; split <;> simp_all
    rw [← e2, hcell j (by omega)]
    have hjz : j < zs.length := by omega
    have hb := wf_u8 (hwf zs[j] (List.getElem_mem hjz))
    simp only [List.getElem_map, List.getElem_take, List.getD_eq_getElem?_getD, List.getElem?_eq_getElem hjz, Option.getD_some]
    congr 2
    rw [UInt8.toNat_ofNat', Nat.mod_eq_of_lt (by omega)]
    omega
end Go.Proofs.YtlccbekalccahaaGreatDoor

namespace Go.Proofs.YtlccbekalccahaaGreatDoor
open Go.ChangeShapes Go.WideShapes Go.RowKit Go.Joins Go.Deep
set_option maxRecDepth 100000

section
variable {H : Type} {enc : TypeId × Value → H} {w : World} {base : Nat} {spare : Nat → Bool} {held : Bool}
theorem byte_of {x : Int} (hw : (Lit.int .u8 x).wf = true) : ∃ a : UInt8, x = (a.toNat : Int) := by
  have hb := wf_u8 hw
  exact ⟨UInt8.ofNat x.toNat, by rw [UInt8.toNat_ofNat', Nat.mod_eq_of_lt (by omega)]; omega⟩

theorem u8_of_cell {n : Nat} {v : Value} {y : DataW H × List MemPlace} (h : DataW.trod enc Tryz.prog w base spare held n 5 [v] = some y) : ∃ a : UInt8, v = .int .u8 (a.toNat : Int) := by
  obtain ⟨x, hx, _, hw⟩ := DataW.trod_int Tryz.underlying5 h
  obtain ⟨a, rfl⟩ := byte_of hw
  injection hx with hx
  exact ⟨a, hx⟩

theorem open_byte {r : Reach} {b0 : Nat} {v : Value} {d : DataW H} {p : List MemPlace} (hv : Value.okWide Tryz.prog w r b0 5 v) (h : DataW.Trod enc Tryz.prog w base spare held 5 v d p) : ∃ a : UInt8, v = .int .u8 (a.toNat : Int) := by
  obtain ⟨x, rfl, _, _, hw⟩ := open_int Tryz.underlying5 hv h
  obtain ⟨a, rfl⟩ := byte_of hw
  exact ⟨a, rfl⟩

theorem open_i64 {r : Reach} {b0 : Nat} {v : Value} {d : DataW H} {p : List MemPlace} (hv : Value.okWide Tryz.prog w r b0 3 v) (h : DataW.Trod enc Tryz.prog w base spare held 3 v d p) : ∃ a : Int, v = .int .i64 a ∧ -9223372036854775808 ≤ a ∧ a ≤ 9223372036854775807 := by
  obtain ⟨x, rfl, _, _, hw⟩ := open_int Tryz.underlying3 hv h
  exact ⟨x, rfl, wf_i64 hw⟩

theorem u64_of_cell {n : Nat} {v : Value} {y : DataW H × List MemPlace} (h : DataW.trod enc Tryz.prog w base spare held n 28 [v] = some y) : ∃ a : Nat, a < 18446744073709551616 ∧ v = .int .u64 (a : Int) := by
  obtain ⟨x, hx, _, hw⟩ := DataW.trod_int Tryz.underlying28 h
  have := bounds_u64 hw
  injection hx with hx
  exact ⟨x.toNat, by omega, by rw [hx]; congr 1; omega⟩
theorem open_u64 {r : Reach} {b0 : Nat} {v : Value} {d : DataW H} {p : List MemPlace} (hv : Value.okWide Tryz.prog w r b0 28 v) (h : DataW.Trod enc Tryz.prog w base spare held 28 v d p) : ∃ a : Nat, v = .int .u64 a ∧ a < 18446744073709551616 := by
  obtain ⟨x, rfl, _, _, hw⟩ := open_int Tryz.underlying28 hv h
  have hb := bounds_u64 hw
  exact ⟨x.toNat, by congr 1; omega, by omega⟩

theorem open_row {b0 : Nat} {r : Reach} {v : Value} {d : DataW H} {p : List MemPlace} (hv : Value.okWide Tryz.prog w r b0 35 v) (h : DataW.Trod enc Tryz.prog w base (fun _ => true) held 35 v d p) :
    ∃ (A : Option Addr) (n c : Nat) (l : List UInt8), v = .slice A n c ∧ RB w w.heap.size A n c l := by
  obtain ⟨A, n, c, rfl⟩ := okWide_slice Tryz.underlying35 hv
  obtain ⟨fuel, hf⟩ := h
  rcases open_ints Tryz.underlying35 Tryz.underlying5 (by kernel_rfl) hf with ⟨hcs, _⟩ | ⟨a, len', cap', zs, hcs, _, hl, hm, hz, hx, hcell, hwz⟩
  · simp [Value.cells] at hcs
    obtain ⟨rfl, rfl, rfl⟩ := hcs
    exact ⟨none, 0, 0, [], rfl, RB.nil⟩
  · simp [Value.cells] at hcs
    obtain ⟨rfl, rfl, rfl⟩ := hcs
    simp only [if_true] at hz
    exact ⟨some a, n, c, _, rfl, rb_of_cells w a n c zs hl hm hz hcell hwz⟩
end
end Go.Proofs.YtlccbekalccahaaGreatDoor

namespace Go.Proofs.YtlccbekalccahaaGreatDoor
open Go.ChangeShapes Go.WideShapes Go.RowKit Go.Joins Go.Deep
set_option maxRecDepth 100000

section
variable {H : Type} {enc : TypeId × Value → H} {w : World} {base : Nat} {spare : Nat → Bool} {held : Bool}
theorem u32_of_cell {n : Nat} {v : Value} {y : DataW H × List MemPlace} (h : DataW.trod enc Tryz.prog w base spare held n 27 [v] = some y) : ∃ a : Nat, a < 4294967296 ∧ v = .int .u32 (a : Int) := by
  obtain ⟨x, hx, _, hw⟩ := DataW.trod_int Tryz.underlying27 h
  have := bounds_u32 hw
  injection hx with hx
  exact ⟨x.toNat, by omega, by rw [hx]; congr 1; omega⟩
theorem form_of_cells {n : Nat} {c0 c1 : Value} {y : DataW H × List MemPlace} (hf : DataW.trod enc Tryz.prog w base spare held n 23 [c0, c1] = some y) : ∃ wide big : Bool, c0 = .bool wide ∧ c1 = .bool big := by
  obtain ⟨x0, x1, m, _, _, k0, k1⟩ := trod_struct2 Tryz.underlying23 hf
  have k0' : DataW.trod enc Tryz.prog w base spare held m 4 [c0] = some x0 := by
    simpa [show Program.cellsOf Tryz.prog 4 = 1 by kernel_rfl] using k0
  have k1' : DataW.trod enc Tryz.prog w base spare held m 4 [c1] = some x1 := by
    simpa [show Program.cellsOf Tryz.prog 4 = 1 by kernel_rfl] using k1
  obtain ⟨wide, e0, _⟩ := DataW.trod_bool Tryz.underlying4 k0'
  obtain ⟨big, e1, _⟩ := DataW.trod_bool Tryz.underlying4 k1'
  injection e0 with e0
  injection e1 with e1
  exact ⟨wide, big, e0, e1⟩
theorem open_form {r : Reach} {b0 : Nat} {v : Value} {d : DataW H} {p : List MemPlace} (hv : Value.okWide Tryz.prog w r b0 23 v) (h : DataW.Trod enc Tryz.prog w base spare held 23 v d p) :
    ∃ wide big : Bool, v = .agg #[.bool wide, .bool big] := by
  obtain ⟨cs, rfl, hsz⟩ := okWide_struct Tryz.underlying23 hv
  obtain ⟨c0, c1, rfl⟩ := arr2 (hsz.trans (show Program.cellsOf Tryz.prog 23 = 2 by kernel_rfl))
  obtain ⟨fuel, hf⟩ := h
  obtain ⟨wide, big, rfl, rfl⟩ := form_of_cells hf
  exact ⟨wide, big, rfl⟩
end
end Go.Proofs.YtlccbekalccahaaGreatDoor
