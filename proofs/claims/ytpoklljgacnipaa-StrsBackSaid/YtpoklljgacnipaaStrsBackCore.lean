/-
  The walk of bezantlaw07.StrsBack: at any names it returns true, and nothing that was there has changed.
-/
import Derived.Test.YtpoklljgacnipaaUp7
import Derived.Test.YtpoklljgacnipaaStrSmall
import Derived.Test.YtpoklljgacnipaaStrGet
import Derived.BigQuiet
import Derived.Deep.QuietTactic
namespace Go.Proofs.Ytpoklljgacnipaa
open Go.RowKit

theorem got_there {L : List Bs} (hz : areN L = true) {k p : Nat} (hp : (ats L L.length)[k]? = some p) : nameAt (tab L L.length) p = some (L.getD k []) := (got_at hz _ (Nat.le_refl _) k p hp).2

theorem beq_both {x y : Nat} {S T : ByteArray} {s t : Bs} (hS : S = bstr s) (hT : T = bstr t) (h : x = y ↔ s = t) : (!(((x : Int) == (y : Int)) == (S.toList == T.toList))) = false := by
  by_cases e : s = t
  · rw [bstr_eq hS hT e, h.2 e]; simp
  · rw [bstr_ne hS hT e]
    have : ((x : Int) == (y : Int)) = false := by
      rw [beq_eq_false_iff_ne]
      intro e2
      exact e (h.1 (by omega))
    rw [this]; rfl

set_option maxRecDepth 100000 in
set_option maxHeartbeats 2000000 in
theorem strsBack_core (A' : Option Addr) (n' c' : Nat) (L : List Bs) (w : World) (hs : SS w w.heap.size A' n' c' L) :
    Calls Try.prog 4 #[.slice A' n' c'] w fun e w' => e = .returned (.bool true) ∧ Below w.heap.size w w' := by
  have hc := hs.cap
  have hm := hs.max
  unfold maxLen at hm
  obtain rfl := hs.len
  have HS := Lib.hid hs
  clear hs
  go_enter Try.func4, Try.ntmps4
  go_wp2_with fail
  refine (up7_any _).mono ?_
  rintro e w1 ⟨rfl, hb1⟩
  have HB := Lib.hid hb1
  have HS1 := Lib.hid (HS.out.grow hb1)
  clear hb1 HS
  go_wp2_with fail
  refine (small_any _ _ _ _ _ _ HS1.out).mono ?_
  rintro e w' ⟨rfl, rfl | ⟨rfl, h60, h5⟩⟩
  · go_wp2_with fail
    go_ret
    exact ⟨rfl, HB.out⟩
  · have H5 := Lib.hid h5
    clear h5
    go_wp2_with fail
    refine (build_any _ _ _ _ _ HS1.out h60 H5.out).mono ?_
    rintro e w2 ⟨hg2, ⟨hz, rfl⟩ | ⟨hz, TA, tc, QA, qc, rfl, hb2, hn2⟩⟩
    · have HB2 : Hid (Grow w w2) := Grow.trans HB.out hg2
      clear hz hg2 HS1 HB
      go_wp2_with fail
      go_ret
      exact ⟨rfl, HB2.out⟩
    · have HZ := Lib.hid hz
      have HB2 : Hid (Grow w w2) := Grow.trans HB.out hg2
      have HS2 := Lib.hid (HS1.out.grow hg2)
      have HR2 := Lib.hid hb2
      have HN2 := Lib.hid hn2
      have hpos := tab_pos (L := L) L.length
      have hle := bound_tab H5.out (k := L.length) h60
      have HF := Lib.hid (tab_first (L := L) L.length)
      have HLt := Lib.hid (tab_last (L := L) L.length)
      have HLen := Lib.hid hb2.len
      have hcap2 := hb2.cap
      obtain ⟨tb, to, rfl, htb, htc⟩ := hb2.pos hpos
      have HTC := Lib.hid htc
      clear hz hg2 HS1 HB hb2 hn2 htb htc
      have hT0 : (((tab L L.length).length : Int) == 0) = false := by rw [beq_eq_false_iff_ne]; omega
      have HA : Hid (∀ k p : Nat, (ats L L.length)[k]? = some p → p < (tab L L.length).length) := Lib.hid fun k p h => ats_lt (List.mem_of_getElem? h)
      have HAl : Hid ((ats L L.length).length = L.length) := Lib.hid (ats_len _)
      have HG : Hid (∀ k p y : Nat, (ats L L.length)[k]? = some p → Calls Try.prog 7 #[.slice (some ⟨tb, to, none⟩) (tab L L.length).length tc, .int .u64 p] (w2.drewN y) fun e w' => e = .returned (.tuple #[.string (bstr (L.getD k [])), .bool true]) ∧ w2.drewN y = w') := by
        refine Lib.hid fun k p y hp => ?_
        have h1 := HA.out k p hp
        refine (sGet_any _ _ _ _ p (w2.drewN y) (HR2.out.drewN y) (by omega)).mono fun e w' h => ?_
        unfold GotN at h
        rw [got_there HZ.out hp] at h
        exact h
      generalize hT : (tab L L.length).length = T at HR2 hpos hle HLt HLen HA HG hT0 hcap2 ⊢
      have HT := Lib.hid hT
      clear hT
      go_wp2_with fail
      go_loopw [7] (fun i wr => ∃ k x : Nat, k ≤ L.length ∧ i = .int .i64 k ∧ wr = w2.drewN x) (fun i _ => L.length - (intOf i).toNat)
      case atStart => exact ⟨0, 0, Nat.zero_le _, rfl, rfl⟩
      case round =>
        obtain ⟨k, x, hk, rfl, rfl⟩ := hrel
        by_cases hlt : k < L.length
        · obtain ⟨qb, qo, rfl, hqb, hqc⟩ := HN2.out.pos (show 0 < L.length by omega)
          obtain ⟨sb, so, rfl, hsb, hsc⟩ := HS2.out.pos (show 0 < L.length by omega)
          have HQC := Lib.hid hqc
          have HSC := Lib.hid hsc
          have hka : k < (ats L L.length).length := by rw [HAl.out]; exact hlt
          have q1 : ∀ y, (w2.drewN y).cell? ⟨qb, qo + k, none⟩ = some (.int .u64 ((ats L L.length)[k] : Int)) := fun y => hqc k hka
          have HP := Lib.hid (List.getElem?_eq_getElem hka)
          have hp1 := HA.out k _ HP.out
          have q2 : ∀ y, (w2.drewN y).cell? ⟨sb, so + k, none⟩ = some (.string (bstr (L.getD k []))) := fun y => hsc k hlt
          have HGk := Lib.hid (fun y => HG.out k _ y HP.out)
          obtain ⟨p, hp⟩ : ∃ p, p = (ats L L.length)[k] := ⟨_, rfl⟩
          obtain ⟨S, hS⟩ : ∃ S, S = bstr (L.getD k []) := ⟨_, rfl⟩
          rw [← hp] at q1 HP hp1 HGk
          rw [← hS] at q2 HGk
          have HSs := Lib.hid hS
          clear hqb hqc hsb hsc hka hp hS
          have e1 : (S.toList != S.toList) = false := by simp
          have HE1 := Lib.hid e1
          clear e1
          go_wp2_with fail
          refine (HGk.out x).mono ?_
          rintro e w' ⟨rfl, rfl⟩
          have e1 := HE1.out
          go_wp2_with fail
          go_loopw [10] (fun i wr => ∃ m y : Nat, m ≤ k ∧ i = .int .i64 m ∧ wr = w2.drewN y) (fun i _ => k - (intOf i).toNat)
          case atStart => exact ⟨0, x, Nat.zero_le _, rfl, rfl⟩
          case round =>
            obtain ⟨m, y, hm2, rfl, rfl⟩ := hrel
            by_cases hmk : m < k
            · have hma : m < (ats L L.length).length := by rw [HAl.out]; omega
              have q3 : ∀ y, (w2.drewN y).cell? ⟨qb, qo + m, none⟩ = some (.int .u64 ((ats L L.length)[m] : Int)) := fun y => HQC.out m hma
              have HPm := Lib.hid (List.getElem?_eq_getElem hma)
              have q4 : ∀ y, (w2.drewN y).cell? ⟨sb, so + m, none⟩ = some (.string (bstr (L.getD m []))) := fun y => HSC.out m (by omega)
              obtain ⟨p2, hp2⟩ : ∃ p, p = (ats L L.length)[m] := ⟨_, rfl⟩
              obtain ⟨S2, hS2⟩ : ∃ S, S = bstr (L.getD m []) := ⟨_, rfl⟩
              rw [← hp2] at q3 HPm
              rw [← hS2] at q4
              have HSs2 := Lib.hid hS2
              have e2 : (!(((p : Int) == (p2 : Int)) == (S.toList == S2.toList))) = false := by
                refine beq_both HSs.out HSs2.out ?_
                have := ats_alike HZ.out (i := k) (j := m) hlt (by omega)
                rw [List.getD_eq_getElem?_getD, List.getD_eq_getElem?_getD, HP.out, HPm.out] at this
                exact this
              clear hma hp2 hS2 e1
              go_wp2_with fail
              go_quiet (fail)
              go_wp2_with fail
              go_roundw
              case rel => exact ⟨m + 1, _, by omega, by go_num, rfl⟩
              case measure => simp [intOf]; omega
            · clear e1
              go_wp2_with fail
              go_roundw
              case rel => exact ⟨k + 1, _, by omega, by go_num, rfl⟩
              case measure => simp [intOf]; omega
        · have hzero : 0 < (tab L L.length).length := by rw [HT.out]; exact hpos
          have c0 : (w2.drewN x).cell? ⟨tb, to, none⟩ = some (.int .u8 0) := by
            have h1 := HTC.out 0 hzero
            have h2 := HF.out
            rw [List.getElem?_eq_getElem hzero] at h2
            injection h2 with h2
            rw [h2] at h1
            exact h1
          have hlast : T - 1 < (tab L L.length).length := by rw [HT.out]; omega
          have c1 : (w2.drewN x).cell? ⟨tb, to + (T - 1), none⟩ = some (.int .u8 0) := by
            have h1 := HTC.out (T - 1) hlast
            have h2 := HLt.out
            rw [List.getElem?_eq_getElem hlast] at h2
            injection h2 with h2
            rw [h2] at h1
            exact h1
          clear hzero hlast
          go_wp2_with fail
          go_ret
          exact ⟨rfl, Grow.trans HB2.out (Grow.of_drewN _ _)⟩
end Go.Proofs.Ytpoklljgacnipaa
