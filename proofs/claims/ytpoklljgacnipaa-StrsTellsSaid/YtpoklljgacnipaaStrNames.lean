/-
  The contract of the document's own Names (layer 7): the same answer as strs.Build's.
-/
import Derived.Test.YtpoklljgacnipaaStrIdx
import Derived.Test.YtpoklljgacnipaaAppG
import Derived.Test.YtpoklljgacnipaaStrBuild
import Derived.BigQuiet
import Derived.Deep.QuietTactic
namespace Go.Proofs.Ytpoklljgacnipaa
open Go.RowKit

/-- What Names tells. -/
def NamesR (L : List Bs) (w : World) (e : Ending) (w' : World) : Prop :=
  Grow w w' ∧ ((areN L = false ∧ e = .returned (.tuple #[.slice none 0 0, .slice none 0 0, .bool false])) ∨
    (areN L = true ∧ ∃ A c A2 c2, e = .returned (.tuple #[.slice A (tab L L.length).length c, .slice A2 L.length c2, .bool true]) ∧ RB w' w'.heap.size A (tab L L.length).length c (tab L L.length) ∧
      NS w' w'.heap.size .u64 A2 L.length c2 (ats L L.length)))

/-- What has been found, as the loop holds it. -/
def fnd (r : Option Nat) : Int := match r with | some p => (p : Int) | none => -1

theorem bytes_str (s : Bs) : ∀ W : World, (convert 9 22 (.string (bstr s))).run Try.prog W = .ok (.slice (some ⟨W.heap.size, 0, none⟩) s.length (grownCap W s.length 0 5))
      (W.drew.alloc (.cells (bytesRow (bstr s) (grownCap W s.length 0 5)) 5 ((bytesRow (bstr s) (grownCap W s.length 0 5)).size, (bytesRow (bstr s) (grownCap W s.length 0 5)).size + 1))) := fun W => by
  have := run_bytes_of_string (P := Try.prog) W 9 22 5 (bstr s) Try.underlying9 Try.underlying22 Try.underlying5
  rw [bstr_size] at this
  exact this

set_option maxHeartbeats 1000000 in
set_option maxRecDepth 100000 in
theorem names_any (A : Option Addr) (n c : Nat) (L : List Bs) (w : World) (h : SS w w.heap.size A n c L) (h60 : L.length ≤ 60) (h5 : ∀ s ∈ L, s.length ≤ 500) :
    Calls Try.prog 10 #[.slice A n c] w (NamesR L w) := by
  obtain rfl := h.len
  have HS := Lib.hid h
  have hc := h.cap
  have hm := h.max
  unfold maxLen at hm
  have H5 := Lib.hid h5
  clear h h5
  go_enter Try.func10, Try.ntmps10
  go_wp2_with fail
  go_loopw [5, 6, 7] (fun T Q i wr => ∃ (k : Nat) (TA : Option Addr) (tc : Nat) (QA : Option Addr) (qc : Nat), k ≤ L.length ∧ i = .int .i64 k ∧ T = .slice TA (tab L k).length tc ∧ Q = .slice QA k qc ∧ OB wr w.heap.size 5 TA (tab L k).length tc (tab L k) ∧
    ON wr w.heap.size 23 .u64 QA k qc (ats L k) ∧ (∀ j, j < k → noZero (L.getD j []) = true) ∧ Below w.heap.size w wr) (fun _ _ i _ => L.length - (intOf i).toNat)
  case atStart => exact ⟨0, _, _, _, _, Nat.zero_le _, rfl, rfl, rfl, OB.lit w w.heap.size 5 [0] (by decide) (Nat.le_refl _), ON.nil, fun j hj => absurd hj (by omega), (Below.refl _ _).alloc (Nat.le_refl _) _⟩
  case round =>
    obtain ⟨k, TA, tc, QA, qc, hk, rfl, rfl, rfl, ho, hq, hz, hb⟩ := hrel
    have HO := Lib.hid ho
    have HQ := Lib.hid hq
    have HZ := Lib.hid hz
    have HB := Lib.hid hb
    clear ho hq hz hb
    by_cases hlt : k < L.length
    · have HSw := (HS.out.belowAt HB.out (Nat.le_refl _))
      obtain ⟨b, off, rfl, hbk, hcell⟩ := HSw.pos (by omega)
      have q := hcell k hlt
      have HC : Hid (∀ j, j < L.length → wr.cell? ⟨b, off + j, none⟩ = some (.string (bstr (L.getD j [])))) := hcell
      clear hbk hcell HSw
      have h5k := H5.out _ (getD_mem hlt)
      have HMm := Lib.hid (getD_mem hlt)
      obtain ⟨s, hs⟩ : ∃ s, s = L.getD k [] := ⟨_, rfl⟩
      rw [← hs] at q h5k HMm
      have Hs := Lib.hid hs
      have hsz := bstr_size s
      obtain ⟨S, hS⟩ : ∃ S, S = bstr s := ⟨_, rfl⟩
      rw [← hS] at q hsz
      have HSs := Lib.hid hS
      have HSz := Lib.hid hsz
      have hS5 : S.size ≤ 500 := by omega
      clear hs hS hsz
      go_wp2_with fail
      go_loop [8] (fun i => ∃ m : Nat, m ≤ S.size ∧ i = .int .i64 m ∧ Hid (∀ j, j < m → s[j]? ≠ some 0)) (fun i => S.size - (intOf i).toNat)
      case atStart => exact ⟨0, Nat.zero_le _, rfl, Lib.hid fun j hj => absurd hj (by omega)⟩
      case round =>
        obtain ⟨m, hm, rfl, HK⟩ := hrel
        by_cases hms : m < S.size
        · have HG := Lib.hid (bstr_at HSs.out m hms)
          by_cases hu : S[m] = 0
          · have hz0 : ((S[m].toNat : Int) == 0) = true := by rw [hu]; rfl
            have E : Hid (areN L = false) := by
              refine Lib.hid ?_
              unfold areN
              rw [List.all_eq_false]
              refine ⟨s, HMm.out, fun hn => ?_⟩
              refine cut0_none.1 (Option.isNone_iff_eq_none.1 hn) 0 ?_ rfl
              have := HG.out
              rw [hu] at this
              exact List.mem_of_getElem? this
            clear hu HG
            go_wp2
            go_ret3
            exact ⟨HB.out, .inl ⟨E.out, rfl⟩⟩
          · have hz0 : ((S[m].toNat : Int) == 0) = false := by
              rw [beq_eq_false_iff_ne]
              intro e
              exact hu (by rw [← UInt8.toNat_inj]; simpa using e)
            have HU := Lib.hid hu
            clear hu
            go_wp2
            go_round
            case rel =>
              refine ⟨m + 1, by omega, by go_num, Lib.hid fun j hj => ?_⟩
              by_cases e : j < m
              · exact HK.out j e
              · have : j = m := by omega
                subst this
                rw [HG.out]
                intro e2
                injection e2 with e2
                exact HU.out e2
            case measure => simp [intOf]; omega
        · have HN : Hid (noZero s = true) := by
            refine Lib.hid ?_
            rw [noZero, Option.isNone_iff_eq_none, cut0_none]
            intro x hx e
            subst e
            obtain ⟨j, hj⟩ := List.getElem?_of_mem hx
            exact HK.out j (by have := (List.getElem?_eq_some_iff.1 hj).1; have := HSz.out; omega) hj
          clear HK
          have HL0 := Lib.hid (lk_zero L k s)
          have he0 : S.toList.isEmpty = s.isEmpty := bstr_empty HSs.out
          cases hsE : s.isEmpty
          all_goals
            rw [hsE] at he0
            have HE0 := Lib.hid hsE
            clear hsE
            go_wp2_with fail
            go_loopw [9, 10] (fun f i w2 => ∃ m x : Nat, m ≤ k ∧ i = .int .i64 m ∧ f = .int .i64 (fnd (lk L k m s)) ∧ w2 = wr.drewN x) (fun _ i _ => k - (intOf i).toNat)
            case atStart => exact ⟨0, 0, Nat.zero_le _, rfl, by rw [HL0.out]; rcases s with _ | ⟨b0, r0⟩ <;> first | rfl | (have := HE0.out; simp at this), rfl⟩
            case round =>
              obtain ⟨m2, x, hm2, rfl, rfl, rfl⟩ := hrel
              clear he0 HE0 HL0
              cases hl : lk L k m2 s with
              | none =>
                rw [show fnd none = -1 from rfl]
                by_cases hmk : m2 < k
                · have HLS := Lib.hid (lk_succ (Nat.le_of_lt hlt) hmk s)
                  rw [hl] at HLS
                  clear hl
                  obtain ⟨bq, oq, rfl, hbq, hqc⟩ := HQ.out.ns.pos (show 0 < k by omega)
                  have hal : m2 < (ats L k).length := by rw [ats_len]; exact hmk
                  have q3 : ∀ y, (wr.drewN y).cell? ⟨bq, oq + m2, none⟩ = some (.int .u64 ((ats L k)[m2] : Int)) := fun y => hqc m2 hal
                  have HV := Lib.hid (List.getElem?_eq_getElem hal)
                  have hv := ats_lt (List.getElem_mem hal)
                  generalize (ats L k)[m2] = v at q3 HV hv
                  have hvt := bound_tab H5.out (k := k) (by omega)
                  have q2 : ∀ y, (wr.drewN y).cell? ⟨b, off + m2, none⟩ = some (.string (bstr (L.getD m2 []))) := fun y => HC.out m2 (by omega)
                  have q1 : ∀ y, (wr.drewN y).cell? ⟨b, off + k, none⟩ = some (.string S) := fun y => q
                  by_cases e : L.getD m2 [] = s
                  · have he2 := bstr_eq (S := bstr (L.getD m2 [])) rfl HSs.out e
                    have HN2 : Hid (lk L k (m2 + 1) s = some v) := by refine Lib.hid ?_; rw [HLS.out, if_pos e]; exact HV.out
                    clear e HV HLS hqc hal hbq
                    generalize bstr (L.getD m2 []) = S2 at q2 he2
                    go_wp2_with fail
                    go_quiet (fail)
                    go_wp2_with fail
                    go_roundw
                    case rel => exact ⟨m2 + 1, _, by omega, by go_num, by rw [HN2.out]; rfl, rfl⟩
                    case measure => simp [intOf]; omega
                  · have he2 := bstr_ne (S := bstr (L.getD m2 [])) rfl HSs.out e
                    have HN2 : Hid (lk L k (m2 + 1) s = none) := by refine Lib.hid ?_; rw [HLS.out, if_neg e]
                    clear e HV HLS hqc hal hbq q3 hv hvt
                    generalize bstr (L.getD m2 []) = S2 at q2 he2
                    go_wp2_with fail
                    go_quiet (fail)
                    go_wp2_with fail
                    go_roundw
                    case rel => exact ⟨m2 + 1, _, by omega, by go_num, by rw [HN2.out]; rfl, rfl⟩
                    case measure => simp [intOf]; omega
                · obtain rfl : m2 = k := by omega
                  rw [lk_all] at hl
                  have HPL : Hid (look (L.take m2) (ats L m2) (L.getD m2 []) = none) := by rw [← Hs.out]; exact hl
                  have hcv := bytes_str s
                  rw [← HSs.out] at hcv
                  clear hl
                  have htb := bound_tab H5.out (k := m2) (by omega)
                  have hcg := grownCap_ge (wr.drewN x) s.length 0 5
                  have hcm := grownCap_le_maxLen (wr.drewN x) s.length 0 5 (by unfold maxLen; omega)
                  have HFr := Lib.hid (fun fz => RB.fresh (wr.drewN (x + 1)) 5 s HSs.out (grownCap (wr.drewN x) s.length 0 5) fz hcg hcm)
                  have HO1 := Lib.hid (fun o => OB.alloc (w := wr.drewN (x + 1)) HO.out o)
                  have HQ1 := Lib.hid (fun o => ON.alloc (w := wr.drewN (x + 1)) HQ.out o)
                  have HB1 := Lib.hid (fun o => below_new (below_drewN HB.out (x + 1)) HB.out.size o)
                  have z1 : IntKind.u64.wrap ((tab L m2).length : Int) = ((tab L m2).length : Int) := by rw [IntKind.wrap_u64]; omega
                  clear hcg hcm
                  go_wp2_with (refine wpList_appendG _ rfl (.tmp 66) (.tmp 71) 22 rfl w.heap.size 5 Try.underlying22 (by kernel_rfl) TA _ tc _ rfl (HO1.out _) _ _ s.length _ s rfl (HFr.out _) (by omega) (by have := HB.out.size; simp; omega) ?_)
                  intro A3 c3 w3 ho3 hg3
                  have HO3 := Lib.hid (ho3.alloc (.cells #[.int .u8 0] 5))
                  have HQ3 := Lib.hid (((HQ1.out _).grownBy hg3 (ON.bytNe HQ.out HO.out (by decide))).alloc (.cells #[.int .u8 0] 5))
                  have hz3 := hg3.size
                  simp at hz3
                  have hwB := HB.out.size
                  have HB3 := Lib.hid (((HB1.out _).grown hg3 (by simp; omega) (fun j hj => HO.out.ge hj)).alloc (show w.heap.size ≤ w3.heap.size by omega) (.cells #[.int .u8 0] 5))
                  have HL3 := Lib.hid (RB.lit w3 5 [0] (by decide))
                  clear ho3 hg3 hcv
                  go_wp2_with (refine wpList_appendG _ rfl (.tmp 72) (.tmp 73) 22 rfl w.heap.size 5 Try.underlying22 (by kernel_rfl) A3 _ c3 _ rfl HO3.out _ _ 1 1 [0] rfl HL3.out (by omega) (by simp; omega) ?_)
                  intro A4 c4 w4 ho4 hg4
                  have hz4 := hg4.size
                  simp at hz4
                  have HO4 := Lib.hid (ho4.alloc (.cells #[.int .u64 ((tab L m2).length : Int)] 23))
                  have HQ4 := Lib.hid ((HQ3.out.grownBy hg4 (ON.bytNe HQ3.out HO3.out (by decide))).alloc (.cells #[.int .u64 ((tab L m2).length : Int)] 23))
                  have HB4 := Lib.hid ((HB3.out.grown hg4 (by simp; omega) (fun j hj => HO3.out.ge hj)).alloc (show w.heap.size ≤ w4.heap.size by omega) (.cells #[.int .u64 ((tab L m2).length : Int)] 23))
                  clear ho4 hg4
                  go_wp2_with (refine wpList_append1G _ rfl (.tmp 75) (.tmp 78) 29 rfl w.heap.size 23 .u64 8 Try.underlying29 (by kernel_rfl) QA m2 qc _ rfl HQ4.out w4.heap.size 23 (tab L m2).length rfl (Blk.new _ _ _) (by unfold maxLen; omega) (by omega) (by simp; omega) ?_)
                  intro A5 c5 w5 hq5 hg5
                  have HQ5 := Lib.hid hq5
                  have HO5 := Lib.hid (HO4.out.grownBy hg5 (OB.numNe HO4.out HQ4.out (by decide)))
                  have HB5 := Lib.hid (HB4.out.grown hg5 (by simp; omega) (fun j hj => HQ4.out.ge hj))
                  clear hq5 hg5
                  go_wp2_with fail
                  go_roundw
                  case rel =>
                    have e1 := (tab_new HPL.out).1
                    have e3 := (tab_new HPL.out).2
                    rw [← Hs.out] at e1
                    have e2 : (tab L (m2 + 1)).length = (tab L m2).length + s.length + 1 := by rw [e1, List.length_append, List.length_append]; rfl
                    refine ⟨m2 + 1, A4, c4, A5, c5, by omega, by go_num, by rw [e2], rfl, by rw [e2, e1]; first | exact HO5.out | (rw [← List.append_assoc]; exact HO5.out), by rw [e3]; exact HQ5.out, fun j hj => ?_, HB5.out⟩
                    by_cases e : j < m2
                    · exact HZ.out j e
                    · have : j = m2 := by omega
                      subst this
                      rw [← Hs.out]
                      exact HN.out
                  case measure => simp [intOf]; omega
              | some p =>
                rw [show fnd (some p) = (p : Int) from rfl]
                have HPL : Hid (look (L.take k) (ats L k) (L.getD k []) = some p) := by rw [← Hs.out]; exact lk_found (Nat.le_of_lt hlt) hm2 hl
                have hp1 := look_lt HPL.out
                have hp2 := bound_tab H5.out (k := k) (by omega)
                have z1 : IntKind.u64.wrap (p : Int) = (p : Int) := by rw [IntKind.wrap_u64]; omega
                have hwB := HB.out.size
                have HO1 := Lib.hid (fun o => OB.alloc (w := wr.drewN x) HO.out o)
                have HQ1 := Lib.hid (fun o => ON.alloc (w := wr.drewN x) HQ.out o)
                have HB1 := Lib.hid (fun o => below_new (below_drewN HB.out x) HB.out.size o)
                clear hl
                by_cases hmk : m2 < k
                all_goals
                  go_wp2_with (refine wpList_append1G _ rfl (.tmp 75) (.tmp 78) 29 rfl w.heap.size 23 .u64 8 Try.underlying29 (by kernel_rfl) QA k qc _ rfl (HQ1.out _) wr.heap.size 23 p rfl (Blk.new (wr.drewN x) _ _) (by unfold maxLen; omega) (by omega) (by simp; omega) ?_)
                  intro A5 c5 w5 hq5 hg5
                  have HQ5 := Lib.hid hq5
                  have HO5 := Lib.hid ((HO1.out _).grownBy hg5 (OB.numNe HO.out HQ.out (by decide)))
                  have HB5 := Lib.hid ((HB1.out _).grown hg5 (by simp; omega) (fun j hj => HQ.out.ge hj))
                  clear hq5 hg5
                  go_wp2_with fail
                  go_roundw
                  case rel =>
                    have e1 := (tab_old HPL.out).1
                    have e3 := (tab_old HPL.out).2
                    refine ⟨k + 1, TA, tc, A5, c5, by omega, by go_num, by rw [e1], rfl, by rw [e1]; exact HO5.out, by rw [e3]; exact HQ5.out, fun j hj => ?_, HB5.out⟩
                    by_cases e : j < k
                    · exact HZ.out j e
                    · have : j = k := by omega
                      subst this
                      rw [← Hs.out]
                      exact HN.out
                  case measure => simp [intOf]; omega
    · obtain rfl : k = L.length := by omega
      have E : Hid (areN L = true) := Lib.hid (List.all_eq_true.2 (all_of_getD HZ.out))
      go_wp2
      go_ret3
      exact ⟨HB.out, .inr ⟨E.out, TA, tc, _, _, rfl, HO.out.rb, HQ.out.ns⟩⟩
end Go.Proofs.Ytpoklljgacnipaa
