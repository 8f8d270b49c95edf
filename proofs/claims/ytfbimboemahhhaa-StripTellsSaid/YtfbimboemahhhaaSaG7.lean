/-
  Several texts in one: The contract of the document's own Name (layer 7); The contracts of the document's own begins, stays, name and First of layer 18; The contract of the document's own Goes of layer 18.
-/
import Derived.Test.YtfbimboemahhhaaSaG2
import Derived.Test.YtfbimboemahhhaaSaG3
import Derived.Test.YtfbimboemahhhaaSaG5
namespace Go.Proofs.Ytfbimboemahhhaa
open Go.Lib (hid)
open Go.RowKit
theorem RB.piece {w : World} {B b off n c p m : Nat} {l : List UInt8} (h : RB w B (some ⟨b, off, none⟩) n c l) (hp : p + m ≤ n) : RB w B (some ⟨b, off + p, none⟩) m (c - p) ((l.drop p).take m) := by
 by_cases h0 : 0 < m
 ·exact h.sub hp h0
 ·have : m = 0 := by omega
  subst this
  have := h.max
  exact ⟨by simp, by omega, by omega, fun h => absurd h (by omega)⟩
theorem nameAt_hit {l : Bs} {off k : Nat} (hk : off ≤ k) (h0 : ∀ j, off ≤ j → j < k → l[j]? ≠ some 0) (h : l[k]? = some 0) : nameAt l off = some ((l.drop off).take (k - off)) := by
 refine cut0_at (fun j hj => ?_) ?_
 ·rw [List.getElem?_drop]; exact h0 _ (by omega) (by omega)
 ·rw [List.getElem?_drop, show off + (k - off) = k by omega]; exact h
theorem nameAt_miss {l : Bs} {off : Nat} (h0 : ∀ j, off ≤ j → j < l.length → l[j]? ≠ some 0) : nameAt l off = none := by
 refine cut0_none.2 fun b hb e => ?_
 subst e
 obtain ⟨j, hj⟩ := List.getElem?_of_mem hb
 rw [List.getElem?_drop] at hj
 exact h0 (off + j) (by omega) (List.getElem?_eq_some_iff.1 hj).1 hj
set_option maxHeartbeats 400000 in
theorem rName_any (A : Option Addr) (n c : Nat) (l : Bs) (off : Nat) (w : World) (h : RB w w.heap.size A n c l) (hof : off < 18446744073709551616) :
  Calls Try.prog 45 #[.slice A n c, .int .u64 off] w (GotN l off w) := by
 have HS := hid h
 have HL := hid h.len
 have hc := h.cap
 have hm := h.max
 unfold maxLen at hm
 clear h
 by_cases hfar : n ≤ off
 ·have E := hid (nameAt_far (l := l) (off := off) (by rw [← HL.out]; exact hfar))
  go_enter Try.func45, Try.ntmps45
  go_wp2
  go_ret2
  exact gotN_none E.out
 ·obtain ⟨b, o, rfl, hb, hcell⟩ := HS.out.pos (by omega)
  have HC := hid hcell
  clear hcell hb
  go_enter Try.func45, Try.ntmps45
  go_wp2
  go_loop [6] (fun i => ∃ k : Nat, off ≤ k ∧ k ≤ n ∧ i = .int .i64 k ∧ Hid (∀ j, off ≤ j → j < k → l[j]? ≠ some 0)) (fun i => n - (intOf i).toNat)
  case atStart => exact ⟨off, Nat.le_refl _, by omega, rfl, hid fun j h1 h2 => absurd h2 (by omega)⟩
  case round =>
   obtain ⟨k, hok, hk, rfl, HK⟩ := hrel
   by_cases hlt : k < n
   ·have hkl : k < l.length := by rw [← HL.out]; exact hlt
    have q := HC.out k hkl
    have HG := hid (List.getElem?_eq_getElem hkl)
    generalize l[k] = u at q HG
    by_cases hu : u = 0
    ·subst hu
     have hp := HS.out.piece (p := off) (m := k - off) (by omega)
     have hcv := hp.conv (Nat.le_refl _) w (Grow.refl _)
     have E := hid (nameAt_hit hok HK.out HG.out)
     have i2 : ¬ c = off := by omega
     have i3 : off ≤ k := by omega
     have i4 : k ≤ c := by omega
     rw [show (0 : UInt8).toNat = 0 from rfl] at q
     clear hkl HK HG hp
     go_wp2
     go_ret2
     exact gotN_some E.out
    ·have hz : ((u.toNat : Int) == 0) = false := by
      rw [beq_eq_false_iff_ne]
      intro e
      exact hu (by rw [← UInt8.toNat_inj]; simpa using e)
     have HU := hid hu
     clear hkl hu
     go_wp2
     go_round
     case rel =>
      refine ⟨k + 1, by omega, by omega, by go_num, hid fun j h1 h2 => ?_⟩
      by_cases e : j < k
      ·exact HK.out j h1 e
      ·have : j = k := by omega
       subst this
       rw [HG.out]
       intro e2
       injection e2 with e2
       exact HU.out e2
     case measure => simp [intOf]; omega
   ·have E := hid (nameAt_miss (l := l) (off := off) fun j h1 h2 => HK.out j h1 (by rw [← HL.out] at h2; omega))
    go_wp2
    go_ret2
    exact gotN_none E.out
set_option maxRecDepth 100000
set_option linter.unusedVariables false
theorem rBegins_any (s t : Bs) (w : World) (hs : s.length ≤ maxLen) (ht : t.length ≤ maxLen) :
  Calls Try.prog 49 #[.string (bstr s), .string (bstr t)] w fun e w' => e = .returned (.bool (begins s t)) ∧ w = w' := by
 have hS := bstr_size s
 have hT := bstr_size t
 unfold maxLen at hs ht
 have E := hid (show begins s t = (decide ((bstr t).size ≤ (bstr s).size) && (((bstr s).extract 0 (bstr t).size).toList == (bstr t).toList)) by
  rw [begins_if, Lib.extract_toList, bstr_toList, bstr_list, hS, hT]
  simp)
 rw [← hS] at hs
 rw [← hT] at ht
 clear hS hT
 generalize begins s t = R at E ⊢
 generalize bstr s = S at E hs ⊢
 generalize bstr t = T at E ht ⊢
 by_cases h : T.size ≤ S.size
 ·have d1 : decide (T.size ≤ S.size) = true := decide_eq_true h
  have d2 : decide ((T.size : Int) ≤ (S.size : Int)) = true := decide_eq_true (by omega)
  rw [d1, Bool.true_and] at E
  have m1 : min (S.size : Int) (T.size : Int) = (T.size : Int) := by omega
  have m2 : min S.size T.size = T.size := by omega
  go_enter Try.func49, Try.ntmps49
  go_wp2
  ·go_ret
   exact ⟨ret_bool E.out.symm, rfl⟩
  ·rename_i hle
   have he : T.size = S.size := by omega
   go_ret
   refine ⟨ret_bool ?_, rfl⟩
   rw [E.out, Lib.extract_toList, he]
   congr 1
   rw [ByteArray.toList_eq, List.drop_zero, Nat.sub_zero, List.take_of_length_le (by show S.data.toList.length ≤ S.data.size; simp)]
 ·have d1 : decide (T.size ≤ S.size) = false := decide_eq_false h
  have d2 : decide ((T.size : Int) ≤ (S.size : Int)) = false := decide_eq_false (by omega)
  rw [d1, Bool.false_and] at E
  clear h
  go_enter Try.func49, Try.ntmps49
  go_wp2
  go_ret
  exact ⟨ret_bool E.out.symm, rfl⟩
set_option maxHeartbeats 1000000 in
theorem rStays_any (m : Md) (ok : m.Ok) (S1 : Value) (A2 : Option Addr) (n2 c2 : Nat) (w : World) (g2 : ZR seK w w.heap.size A2 n2 c2 m.secs) (k : Nat) (hk : k < n2) :
  Calls Try.prog 31 #[.agg (mdC m S1 (.slice A2 n2 c2)), .int .i64 (k : Int)] w fun e w' => e = .returned (.bool (!m.mayGo k)) ∧ Grow w w' := by
 have hkl : k < m.secs.length := by rw [← g2.len]; exact hk
 obtain ⟨b, off, rfl, hb⟩ := g2.pos (by omega)
 obtain ⟨Ak, nk, ck, -, p, -⟩ := g2.at hkl
 have T2 := hid (show w.cell? ⟨b, off + k * 13 + 2, none⟩ = some (.int .u64 (m.secs[k].flags : Nat)) from p 2 _ rfl)
 have E := hid (show (!m.mayGo k) = (!decide (m.secs[k].flags / 2 % 2 = 0) || decide ((k : Int) + 1 = m.str)) by unfold Md.mayGo; rw [m.sec_at hkl, Bool.not_and, Bool.not_not])
 have hf := (ok.secs _ (List.getElem_mem hkl)).flags
 have hc := g2.cap
 have hm := g2.max
 unfold maxLen at hm
 have HBb := hid hb
 clear p hb g2
 unfold mdC
 generalize m.secs[k].flags = F at *
 generalize (!m.mayGo k) = R at E ⊢
 generalize m.str = st at E ⊢
 generalize m.wide = f0
 generalize m.big = f1
 generalize m.osabi = f2
 generalize m.abi = f3
 generalize m.typ = f4
 generalize m.mach = f5
 generalize m.flags = f6
 generalize m.entry = f7
 clear hkl ok
 have w0 : (0 : Int) ≤ (k : Int) := by omega
 have w1 : (k : Int) < (n2 : Int) := by omega
 have z : IntKind.i64.wrap ((k : Int) + 1) = (k : Int) + 1 := by rw [IntKind.wrap_i64]; omega
 have t2 : ∀ o, (w.alloc o).cell? ⟨b, off + k * 13 + 2, none⟩ = some (.int .u64 (F : Nat)) := fun o => (Below.cell (Grow.of_alloc w o) HBb.out).trans T2.out
 clear T2 HBb
 rcases Nat.mod_two_eq_zero_or_one (F / 2) with hF | hF
 ·have E3 := hid (show R = ((k : Int) + 1 == st) by rw [E.out, hF, Bool.eq_iff_iff]; simp)
  have q1 : ((((F : Int) / 2) % 2 == 1) : Bool) = false := by rw [beq_eq_false_iff_ne]; omega
  have q2 : (F / 2 % 2 : Nat) = 0 := hF
  go_enter Try.func31, Try.ntmps31
  go_wp2
  go_ret
  exact ⟨ret_bool E3.out.symm, Grow.of_alloc _ _⟩
 ·have E3 := hid (show R = true by rw [E.out, hF]; rfl)
  have q1 : ((((F : Int) / 2) % 2 == 1) : Bool) = true := by rw [beq_iff_eq]; omega
  have q2 : (F / 2 % 2 : Nat) = 1 := hF
  go_enter Try.func31, Try.ntmps31
  go_wp2
  go_ret
  exact ⟨ret_bool E3.out.symm, Grow.of_alloc _ _⟩
def Md.nmD (m : Md) (s : Se) : Bs := if m.noStr then [] else (nameAt m.tab.pl.own s.name).getD []
theorem nmD_of {m : Md} (h : m.chk = 0) (s : Se) : m.nmD s = m.nmOf s := by
 unfold Md.nmD Md.nmOf
 cases h0 : m.noStr with
 | true => unfold Md.strs; rw [h0, if_pos rfl, if_pos rfl]; unfold nameAt; simp [cut0]
 | false => rw [if_neg (by decide), Md.strs_own h h0]
set_option maxHeartbeats 2000000 in
theorem rName18_any (m : Md) (ok : m.Ok) (S1 : Value) (A2 : Option Addr) (n2 c2 : Nat) (w : World) (g2 : ZR seK w w.heap.size A2 n2 c2 m.secs) (k : Nat) (hk : k < n2) :
  Calls Try.prog 50 #[.agg (mdC m S1 (.slice A2 n2 c2)), .int .i64 (k : Int)] w fun e w' => e = .returned (.string (bstr (m.nmD (m.sec k)))) ∧ Grow w w' := by
 obtain ⟨x0, x1, x2, x3, x4, x5, x6, x7, hC⟩ : ∃ x0 x1 x2 x3 x4 x5 x6 x7 : Value, (∀ s t, mdC m s t = #[x0, x1, x2, x3, x4, x5, x6, x7, s, t, .int .i64 m.str]) := ⟨_, _, _, _, _, _, _, _, fun _ _ => rfl⟩
 have hs := ok.str
 have hc := g2.cap
 have hm := g2.max
 unfold maxLen at hm
 unfold I64 at hs
 have e0 : bstr [] = { data := #[] } := rfl
 by_cases h1 : m.str < 1
 ·have E := hid (show m.nmD (m.sec k) = [] by unfold Md.nmD Md.noStr; rw [decide_eq_true h1]; rfl)
  rw [hC, E.out, e0]
  clear hC g2 ok E e0
  generalize m.str = st at *
  have d1 : decide (st < 1) = true := decide_eq_true h1
  go_enter Try.func50, Try.ntmps50
  go_wp2
  go_ret
  exact ⟨rfl, Grow.of_alloc _ _⟩
 have d1 : decide (m.str < 1) = false := decide_eq_false h1
 by_cases h2 : (n2 : Int) < m.str
 ·have E := hid (show m.nmD (m.sec k) = [] by unfold Md.nmD Md.noStr; rw [← g2.len, decide_eq_true h2, Bool.or_true]; rfl)
  rw [hC, E.out, e0]
  clear hC g2 ok E e0
  generalize m.str = st at *
  have d2 : decide ((n2 : Int) < st) = true := decide_eq_true h2
  clear h1
  go_enter Try.func50, Try.ntmps50
  go_wp2
  go_ret
  exact ⟨rfl, Grow.of_alloc _ _⟩
 have d2 : decide ((n2 : Int) < m.str) = false := decide_eq_false h2
 obtain ⟨j, hj⟩ : ∃ j : Nat, m.str = (j : Int) + 1 := ⟨(m.str - 1).toNat, by omega⟩
 have hjn : j < n2 := by omega
 have hjl : j < m.secs.length := by rw [← g2.len]; exact hjn
 have hkl : k < m.secs.length := by rw [← g2.len]; exact hk
 have E : m.nmD (m.sec k) = (nameAt m.secs[j].pl.own m.secs[k].name).getD [] := by
  unfold Md.nmD Md.noStr
  rw [← g2.len, d1, d2]
  have : m.tab = m.secs[j] := by
   have := m.sec_at hjl
   unfold Md.sec at this
   unfold Md.tab
   rw [show (m.str - 1).toNat = j by omega, this]
  rw [this, m.sec_at hkl]
  rfl
 obtain ⟨b, off, hA, hb⟩ := g2.pos (by omega)
 subst hA
 obtain ⟨Aj, nj, cj, -, p, gj⟩ := g2.at hjl
 obtain ⟨Ak, nk, ck, -, q, -⟩ := g2.at hkl
 have hnm := (ok.secs _ (List.getElem_mem hkl)).name
 have HGt := hid (fun W (hW : Grow w W) => rName_any Aj nj cj m.secs[j].pl.own m.secs[k].name W ((gj.belowAt hW (Nat.le_refl _)).more hW.size) (by omega))
 have HP : Hid (w.cell? ⟨b, off + j * 13 + 12, none⟩ = some (.slice Aj nj cj)) := hid (p 12 _ rfl)
 have HQ : Hid (w.cell? ⟨b, off + k * 13, none⟩ = some (.int .u32 (m.secs[k].name : Nat))) := hid (q 0 _ rfl)
 have HBb := hid hb
 unfold GotN at HGt
 rw [E, hC]
 clear hC g2 p q gj E ok hb e0
 generalize (nameAt m.secs[j].pl.own m.secs[k].name).getD [] = nm at HGt ⊢
 generalize (nameAt m.secs[j].pl.own m.secs[k].name).isSome = bb at HGt
 generalize bstr nm = SS at HGt ⊢
 generalize m.secs[k].name = N at HGt HQ hnm
 rw [hj] at *
 clear hj hs h1 h2 hkl hjl
 have z : IntKind.i64.wrap (j : Int) = (j : Int) := by rw [IntKind.wrap_i64]; omega
 have z2 : IntKind.u64.wrap (N : Int) = (N : Int) := by rw [IntKind.wrap_u64]; omega
 have w0 : (0 : Int) ≤ (j : Int) := by omega
 have w1 : (j : Int) < (n2 : Int) := by omega
 have w2 : (0 : Int) ≤ (k : Int) := by omega
 have w3 : (k : Int) < (n2 : Int) := by omega
 go_enter Try.func50, Try.ntmps50
 go_wp2_with fail
 clear d1 d2
 generalize hW : World.alloc _ _ = W0
 obtain ⟨b1, hg0⟩ := blk1 hW
 clear hW
 have HB1 := hid b1.drew
 have HG0 : Hid (Grow w W0.drew) := hid (hg0.trans (Grow.of_drew _))
 clear b1 hg0
 refine wp_region_chain [(0, true), (1, true), (2, true), (3, true), (4, true), (5, true), (6, true), (7, true), (8, true), (9, true), (10, true), (11, true), (12, true), (13, true), (14, true), (15, true), (16, false), (17, true), (18, true), (19, true), (20, true), (21, true)] (by kernel_rfl) (by kernel_rfl) (by kernel_rfl) ?_
 generalize W0.drew = v0 at HB1 HG0 ⊢
 have q9 : ∀ W, Grow v0 W → W.cell? ⟨w.heap.size, 9, none⟩ = some (.slice (some ⟨b, off, none⟩) n2 c2) := fun W hW => (HB1.out.grow hW).at 9
 have q10 : ∀ W, Grow v0 W → W.cell? ⟨w.heap.size, 10, none⟩ = some (.int .i64 ((j : Int) + 1)) := fun W hW => (HB1.out.grow hW).at 10
 have t12 : ∀ W, Grow v0 W → W.cell? ⟨b, off + j * 13 + 12, none⟩ = some (.slice Aj nj cj) := fun W hW => (Below.cell (HG0.out.trans hW) HBb.out).trans HP.out
 have t0 : ∀ W, Grow v0 W → W.cell? ⟨b, off + k * 13, none⟩ = some (.int .u32 (N : Nat)) := fun W hW => (Below.cell (HG0.out.trans hW) HBb.out).trans HQ.out
 repeat ((first | (refine chain_take rfl (by rfl) ?_ (fun W hG => ?_) ?_; rotate_left; (go_simp; rfl)) | refine chain_skip rfl (by rfl) ?_); simp only [Act.put, List.setIfInBounds_toArray, List.set_cons_zero, List.set_cons_succ])
 clear q9 q10 t12 t0
 refine chain_only rfl (by rfl) (fun K hK => ?_)
 go_simp
 refine (HGt.out _ HG0.out).mono ?_
 rintro e w3 ⟨rfl, rfl⟩
 refine hK _ _ (Grow.refl _) ?_
 clear hK K
 repeat ((first | (refine chain_take rfl (by rfl) ?_ (fun W hG => ?_) ?_; rotate_left; (go_simp; rfl)) | refine chain_skip rfl (by rfl) ?_); simp only [Act.put, List.setIfInBounds_toArray, List.set_cons_zero, List.set_cons_succ])
 refine chain_done ?_
 go_wp2
 go_ret
 exact ⟨rfl, HG0.out⟩
set_option maxHeartbeats 4000000 in
theorem rFirst_any (m : Md) (ok : m.Ok) (hck : m.chk = 0) (S1 : Value) (A2 : Option Addr) (n2 c2 : Nat) (w : World) (g2 : ZR seK w w.heap.size A2 n2 c2 m.secs) (hb2 : ∀ s ∈ m.secs, s.pl.own.length ≤ 140737488355328) (k : Nat) (hk : k < n2) :
  Calls Try.prog 30 #[.agg (mdC m S1 (.slice A2 n2 c2)), .int .i64 (k : Int)] w fun e w' => e = .returned (.bool (m.alone k)) ∧ Grow w w' := by
 obtain ⟨x0, x1, x2, x3, x4, x5, x6, x7, x10, hC⟩ : ∃ x0 x1 x2 x3 x4 x5 x6 x7 x10 : Value, (∀ s t, mdC m s t = #[x0, x1, x2, x3, x4, x5, x6, x7, s, t, x10]) := ⟨_, _, _, _, _, _, _, _, _, fun _ _ => rfl⟩
 have hkl : k < m.secs.length := by rw [← g2.len]; exact hk
 have HSt := hid (fun W (hW : Grow w W) => rStays_any m ok S1 A2 n2 c2 W (g2.grow hW) k hk)
 have HNm := hid (fun W (hW : Grow w W) => rName18_any m ok S1 A2 n2 c2 W (g2.grow hW) k hk)
 have hlen : (m.nmD (m.sec k)).length ≤ maxLen := by
  unfold Md.nmD maxLen
  split
  ·exact Nat.zero_le _
  ·rename_i h0
   cases hn : nameAt m.tab.pl.own (m.sec k).name with
   | none => exact Nat.zero_le _
   | some s =>
    have h1 := (cut0_some hn).1
    rw [List.length_drop] at h1
    have h0 : m.noStr = false := by simpa using h0
    unfold Md.noStr at h0
    simp only [Bool.or_eq_false_iff, decide_eq_false_iff_not] at h0
    have hi : (m.str - 1).toNat < m.secs.length := by omega
    have h2 := hb2 m.secs[(m.str - 1).toNat] (List.getElem_mem hi)
    have h3 : m.tab = m.secs[(m.str - 1).toNat] := m.sec_at hi
    rw [← h3] at h2
    simp only [Option.getD_some]
    omega
 have E := hid (show m.alone k = (m.mayGo k && ((((decide (m.secs[k].typ = 2) || decide (m.secs[k].typ = 18)) || decide (m.secs[k].typ = 4)) || decide (m.secs[k].typ = 9)) || (begins (m.nmD (m.sec k)) dotD || begins (m.nmD (m.sec k)) dotZ))) by
  unfold Md.alone Se.isSym isDbg
  rw [nmD_of hck, m.sec_at hkl])
 have HP1 := hid (fun W => rBegins_any (m.nmD (m.sec k)) dotD W hlen (by decide))
 have HP2 := hid (fun W => rBegins_any (m.nmD (m.sec k)) dotZ W hlen (by decide))
 obtain ⟨b, off, hA, hb⟩ := g2.pos (by omega)
 subst hA
 obtain ⟨Ak, nk, ck, -, p, -⟩ := g2.at hkl
 have T1 : Hid (w.cell? ⟨b, off + k * 13 + 1, none⟩ = some (.int .u32 (m.secs[k].typ : Nat))) := hid (p 1 _ rfl)
 have HBb := hid hb
 have hc := g2.cap
 have hm := g2.max
 unfold maxLen at hm
 rw [hC] at HSt HNm ⊢
 have e1 : bstr dotD = { data := #[46, 100, 101, 98, 117, 103] } := rfl
 have e2 : bstr dotZ = { data := #[46, 122, 100, 101, 98, 117, 103] } := rfl
 rw [e1] at HP1
 rw [e2] at HP2
 clear e1 e2 hC g2 ok hck hb2 hlen p hb
 generalize begins (m.nmD (m.sec k)) dotD = X at HP1 E
 generalize begins (m.nmD (m.sec k)) dotZ = Y at HP2 E
 generalize bstr (m.nmD (m.sec k)) = SS at HNm HP1 HP2
 generalize m.alone k = R at E ⊢
 generalize m.mayGo k = Q at HSt E
 generalize m.secs[k].typ = t at T1 E
 clear hkl
 have w0 : (0 : Int) ≤ (k : Int) := by omega
 have w1 : (k : Int) < (n2 : Int) := by omega
 go_enter Try.func30, Try.ntmps30
 go_wp2_with fail
 generalize hW : World.alloc _ _ = W0
 obtain ⟨b1, hg0⟩ := blk1 hW
 clear hW
 have HB0 := hid b1
 have HG0 := hid hg0
 clear b1 hg0
 obtain ⟨v0, v1, v2, v3, v4, v5, v6, v7, v8, v9, v10⟩ := HB0.out.c11
 go_wp2_with fail
 clear v0 v1 v2 v3 v4 v5 v6 v7 v8 v9 v10
 refine (HSt.out _ HG0.out).mono ?_
 rintro e w1 ⟨rfl, hg⟩
 have HB1 := hid (HB0.out.grow hg)
 have HG1 : Hid (Grow w w1) := hid (HG0.out.trans hg)
 clear hg HB0 HG0
 have t1 : w1.cell? ⟨b, off + k * 13 + 1, none⟩ = some (.int .u32 (t : Nat)) := (Below.cell HG1.out HBb.out).trans T1.out
 obtain ⟨v0, v1, v2, v3, v4, v5, v6, v7, v8, v9, v10⟩ := HB1.out.c11
 go_wp2_with fail
 clear v0 v1 v2 v3 v4 v5 v6 v7 v8 v9 v10 t1
 refine (HNm.out _ HG1.out).mono ?_
 rintro e w2 ⟨rfl, hg⟩
 have HB2 := hid (HB1.out.grow hg)
 have HG2 : Hid (Grow w w2) := hid (HG1.out.trans hg)
 clear hg HB1 HG1
 go_wp2_with fail
 refine (HP1.out _).mono ?_
 rintro e w3 ⟨rfl, rfl⟩
 obtain ⟨v0, v1, v2, v3, v4, v5, v6, v7, v8, v9, v10⟩ := HB2.out.c11
 go_wp2_with fail
 clear v0 v1 v2 v3 v4 v5 v6 v7 v8 v9 v10
 refine (HNm.out _ HG2.out).mono ?_
 rintro e w4 ⟨rfl, hg⟩
 have HG4 : Hid (Grow w w4) := hid (HG2.out.trans hg)
 clear hg HB2 HG2
 go_wp2_with fail
 refine (HP2.out _).mono ?_
 rintro e w5 ⟨rfl, rfl⟩
 clear HSt HNm HP1 HP2 T1
 cases Q with
 | false =>
  have E2 := hid (show R = false from E.out)
  go_wp2
  go_ret
  exact ⟨ret_bool E2.out.symm, HG4.out⟩
 | true =>
  rw [Bool.true_and] at E
  by_cases h2 : t = 2
  ·have E2 := hid (show R = true by rw [E.out]; simp [h2])
   have d : ((t : Int) == 2) = true := by simp [h2]
   clear h2 E
   go_wp2
   go_ret
   exact ⟨ret_bool E2.out.symm, HG4.out⟩
  have d2 : ((t : Int) == 2) = false := by simp; omega
  by_cases h18 : t = 18
  ·have E2 := hid (show R = true by rw [E.out]; simp [h18])
   have d : ((t : Int) == 18) = true := by simp [h18]
   clear h2 h18 E
   go_wp2
   go_ret
   exact ⟨ret_bool E2.out.symm, HG4.out⟩
  have d18 : ((t : Int) == 18) = false := by simp; omega
  by_cases h4 : t = 4
  ·have E2 := hid (show R = true by rw [E.out]; simp [h4])
   have d : ((t : Int) == 4) = true := by simp [h4]
   clear h2 h18 h4 E
   go_wp2
   go_ret
   exact ⟨ret_bool E2.out.symm, HG4.out⟩
  have d4 : ((t : Int) == 4) = false := by simp; omega
  by_cases h9 : t = 9
  ·have E2 := hid (show R = true by rw [E.out]; simp [h9])
   have d : ((t : Int) == 9) = true := by simp [h9]
   clear h2 h18 h4 h9 E
   go_wp2
   go_ret
   exact ⟨ret_bool E2.out.symm, HG4.out⟩
  have d9 : ((t : Int) == 9) = false := by simp; omega
  have E2 := hid (show R = (X || Y) by rw [E.out]; simp [h2, h18, h4, h9])
  clear h2 h18 h4 h9 E
  cases X <;> cases Y <;> (go_wp2; go_ret; exact ⟨ret_bool E2.out.symm, HG4.out⟩)
set_option maxRecDepth 100000
set_option linter.unusedVariables false
def bRow (f : Nat → Bool) (k : Nat) : List (Array Value) := (List.range k).map fun i => #[Value.bool (f i)]
theorem bRow_succ (f : Nat → Bool) (k : Nat) : bRow f (k + 1) = bRow f k ++ [#[Value.bool (f k)]] := range_map _ k
theorem grow_app {W0 wr w9 : World} {e : TypeId} {z : Nat} {A : Option Addr} {k c : Nat} {R : List (Array Value)} (hg : Grow W0 wr) (hz : ZO wr W0.heap.size e z A k c R) (h9 : wr.grownBy w9 (own A)) : Grow W0 w9 :=
 Below.trans hg ((Below.refl _ _).grown h9 hg.size fun q hq => hz.ge hq)
set_option maxHeartbeats 8000000 in
theorem rGoes_any (m : Md) (ok : m.Ok) (hck : m.chk = 0) (S1 : Value) (A2 : Option Addr) (n2 c2 : Nat) (w : World) (g2 : ZR seK w w.heap.size A2 n2 c2 m.secs) (hb2 : ∀ s ∈ m.secs, s.pl.own.length ≤ 140737488355328) (hn : n2 ≤ 65536) :
  Calls Try.prog 13 #[.agg (mdC m S1 (.slice A2 n2 c2))] w fun e w' => ∃ A c, e = .returned (.slice A n2 c) ∧ ZO w' w.heap.size 4 1 A n2 c (bRow m.goes n2) ∧ Grow w w' := by
 obtain ⟨x0, x1, x2, x3, x4, x5, x6, x7, x10, hC⟩ : ∃ x0 x1 x2 x3 x4 x5 x6 x7 x10 : Value, (∀ s t, mdC m s t = #[x0, x1, x2, x3, x4, x5, x6, x7, s, t, x10]) := ⟨_, _, _, _, _, _, _, _, _, fun _ _ => rfl⟩
 have HSt := hid (fun W (hW : Grow w W) k hk => rStays_any m ok S1 A2 n2 c2 W (g2.grow hW) k hk)
 have HFi := hid (fun W (hW : Grow w W) k hk => rFirst_any m ok hck S1 A2 n2 c2 W (g2.grow hW) hb2 k hk)
 have HZ := hid g2
 have HL := hid g2.len
 have HOk := hid ok.secs
 have hc := g2.cap
 have hm := g2.max
 unfold maxLen at hm
 have HX : Hid (∀ k (h : k < m.secs.length), m.sec k = m.secs[k]) := hid fun k h => m.sec_at h
 have HG : Hid (∀ k (h : k < m.secs.length), m.goes k = (m.alone k || (decide (m.secs[k].typ = 3) && m.mayGo k && m.bySym n2 k && !m.bySta n2 k))) := hid fun k h => by
  unfold Md.goes Md.byLnk
  rw [m.sec_at h, g2.len]
 have HS0 := hid m.bySym_zero
 have HT0 := hid m.bySta_zero
 have HSs := hid m.bySym_succ
 have HTs := hid m.bySta_succ
 have HR := hid (bRow_succ m.goes)
 have HR0 : Hid (bRow m.goes 0 = []) := hid rfl
 rw [hC] at HSt HFi ⊢
 clear hC g2 ok hck hb2
 generalize bRow m.goes = Rw at *
 generalize m.goes = Gg at *
 generalize m.bySym = Fs at *
 generalize m.bySta = Ft at *
 generalize m.alone = Fa at *
 generalize m.mayGo = G at *
 generalize m.sec = Se at *
 generalize m.secs = L at *
 go_enter Try.func13, Try.ntmps13
 go_wp2_with fail
 generalize hW : World.alloc _ _ = W0
 obtain ⟨b1, hg0⟩ := blk1 hW
 clear hW
 have HB0 := hid b1
 have HG0 := hid hg0
 obtain ⟨gm, hgm⟩ : ∃ g, g = w.heap.size := ⟨_, rfl⟩
 rw [← hgm] at HB0 ⊢
 clear b1 hg0 hgm
 go_loopw [3, 4] (fun out i wr => ∃ (k : Nat) (A : Option Addr) (c : Nat), k ≤ n2 ∧ i = .int .i64 k ∧ out = .slice A k c ∧ ZO wr W0.heap.size 4 1 A k c (Rw k) ∧ Grow W0 wr) (fun _ i _ => n2 - (intOf i).toNat)
 case atStart => exact ⟨0, none, 0, Nat.zero_le _, rfl, rfl, by rw [HR0.out]; exact ZO.nil, Grow.refl _⟩
 case round =>
  obtain ⟨k, A, c, hk, rfl, rfl, hzo, hg⟩ := hrel
  have HZo := hid hzo
  have HGw := hid hg
  clear hzo hg
  have y9 : wr.cell? ⟨gm, 9, none⟩ = some (.slice A2 n2 c2) := (HB0.out.grow HGw.out).at 9
  by_cases hlt : k < n2
  ·have hkl : k < L.length := by rw [← HL.out]; exact hlt
   obtain ⟨b, off, hAA, hb⟩ := HZ.out.pos (by omega)
   subst hAA
   have HBb := hid hb
   obtain ⟨Ak, nk, ck, -, p, -⟩ := HZ.out.at hkl
   have T1 : Hid (w.cell? ⟨b, off + k * 13 + 1, none⟩ = some (.int .u32 (L[k].typ : Nat))) := hid (p 1 _ rfl)
   have HGk := hid (HG.out k hkl)
   have HRk := hid (HR.out k)
   have HStk := hid (fun W (hW : Grow w W) => HSt.out W hW k hlt)
   have HFik := hid (fun W (hW : Grow w W) => HFi.out W hW k hlt)
   clear p hb
   generalize L[k].typ = tk at T1 HGk
   generalize Gg k = R at HGk HRk
   generalize Fa k = Q at HFik HGk
   generalize G k = M at HStk HGk
   clear hkl
   have w0 : (0 : Int) ≤ (k : Int) := by omega
   have w1' : (k : Int) < (n2 : Int) := by omega
   have d1 : decide ((k : Int) < (n2 : Int)) = true := decide_eq_true (by omega)
   have hw1 : IntKind.i64.wrap ((k : Int) + 1) = (k : Int) + 1 := by rw [IntKind.wrap_i64]; omega
   obtain ⟨v0, v1, v2, v3, v4, v5, v6, v7, v8, v9, v10⟩ := (HB0.out.grow HGw.out).c11
   go_wp2_with fail
   clear v0 v1 v2 v3 v4 v5 v6 v7 v8 v9 v10 y9
   refine (HFik.out _ (HG0.out.trans HGw.out)).mono ?_
   rintro e w2 ⟨rfl, hg⟩
   have HZ2 := hid (HZo.out.keep hg)
   have HG2 : Hid (Grow W0 w2) := hid (HGw.out.trans hg)
   clear hg HZo HGw
   obtain ⟨v0, v1, v2, v3, v4, v5, v6, v7, v8, v9, v10⟩ := (HB0.out.grow HG2.out).c11
   go_wp2_with fail
   clear v0 v1 v2 v3 v4 v5 v6 v7 v8 v9 v10
   refine (HStk.out _ (HG0.out.trans HG2.out)).mono ?_
   rintro e w3 ⟨rfl, hg⟩
   have HZ3 := hid (HZ2.out.keep hg)
   have HG3 : Hid (Grow W0 w3) := hid (HG2.out.trans hg)
   clear hg HZ2 HG2 HStk
   have y9 : w3.cell? ⟨gm, 9, none⟩ = some (.slice (some ⟨b, off, none⟩) n2 c2) := (HB0.out.grow HG3.out).at 9
   have t1 : w3.cell? ⟨b, off + k * 13 + 1, none⟩ = some (.int .u32 (tk : Nat)) := (Below.cell (HG0.out.trans HG3.out) HBb.out).trans T1.out
   by_cases hcd : M = true ∧ tk = 3
   ·obtain ⟨rfl, rfl⟩ := hcd
    rw [decide_eq_true rfl, Bool.true_and, Bool.true_and] at HGk
    go_wp2_with fail
    clear y9 t1
    generalize hwq : w3 = wq at HZ3 HG3 ⊢
    clear hwq
    go_loopw [7, 8, 9] (fun s o i wr => ∃ j : Nat, j ≤ n2 ∧ i = .int .i64 j ∧ s = .bool (Fs j k) ∧ o = .bool (Ft j k) ∧ ZO wr W0.heap.size 4 1 A k c (Rw k) ∧ Grow W0 wr) (fun _ _ i _ => n2 - (intOf i).toNat)
    case atStart => exact ⟨0, Nat.zero_le _, rfl, by rw [HS0.out], by rw [HT0.out], HZ3.out, HG3.out⟩
    case round =>
     obtain ⟨j, hj, rfl, rfl, rfl, hzo, hg⟩ := hrel
     have HZ4 := hid hzo
     have HG4 := hid hg
     clear hzo hg HZ3 HG3
     have y9 : wr.cell? ⟨gm, 9, none⟩ = some (.slice (some ⟨b, off, none⟩) n2 c2) := (HB0.out.grow HG4.out).at 9
     by_cases hlj : j < n2
     ·have hjl : j < L.length := by rw [← HL.out]; exact hlj
      obtain ⟨Aj, nj, cj, -, p, -⟩ := HZ.out.at hjl
      have TT := hid (show w.cell? ⟨b, off + j * 13 + 1, none⟩ = some (.int .u32 (L[j].typ : Nat)) from p 1 _ rfl)
      have TL := hid (show w.cell? ⟨b, off + j * 13 + 5, none⟩ = some (.int .u32 (L[j].link : Nat)) from p 5 _ rfl)
      have HE1 := hid (show Fs (j + 1) k = (Fs j k || (decide (L[j].link = k + 1) && (Fa j && decide (L[j].typ = 2)))) by rw [HSs.out, HX.out j hjl])
      have HE2 := hid (show Ft (j + 1) k = (Ft j k || (decide (L[j].link = k + 1) && !Fa j)) by rw [HTs.out, HX.out j hjl])
      have hlk := (HOk.out _ (List.getElem_mem hjl)).link
      have HFj := hid (fun W (hW : Grow w W) => HFi.out W hW j hlj)
      clear p
      generalize L[j].typ = tj at TT HE1
      generalize L[j].link = lk at TL HE1 HE2 hlk
      generalize Fs j k = s at HE1 ⊢
      generalize Ft j k = o at HE2 ⊢
      generalize Fa j = a at HE1 HE2 HFj
      clear hjl
      have u0 : (0 : Int) ≤ (j : Int) := by omega
      have u1 : (j : Int) < (n2 : Int) := by omega
      have d2 : decide ((j : Int) < (n2 : Int)) = true := decide_eq_true (by omega)
      have zl : IntKind.i64.wrap (lk : Int) = (lk : Int) := by rw [IntKind.wrap_i64]; omega
      have t5 : wr.cell? ⟨b, off + j * 13 + 5, none⟩ = some (.int .u32 (lk : Nat)) := (Below.cell (HG0.out.trans HG4.out) HBb.out).trans TL.out
      by_cases hl : lk = k + 1
      ·have e1 : ((lk : Int) == (k : Int) + 1) = true := by rw [beq_iff_eq]; omega
       rw [decide_eq_true hl, Bool.true_and] at HE1 HE2
       clear hl hlk
       obtain ⟨v0, v1, v2, v3, v4, v5, v6, v7, v8, v9, v10⟩ := (HB0.out.grow HG4.out).c11
       go_wp2_with fail
       clear v0 v1 v2 v3 v4 v5 v6 v7 v8 v9 v10 y9 t5 e1
       refine (HFj.out _ (HG0.out.trans HG4.out)).mono ?_
       rintro e w5 ⟨rfl, hg⟩
       have HZ5 := hid (HZ4.out.keep hg)
       have HG5 : Hid (Grow W0 w5) := hid (HG4.out.trans hg)
       have y9 : w5.cell? ⟨gm, 9, none⟩ = some (.slice (some ⟨b, off, none⟩) n2 c2) := (HB0.out.grow HG5.out).at 9
       have t1 : w5.cell? ⟨b, off + j * 13 + 1, none⟩ = some (.int .u32 (tj : Nat)) := (Below.cell (HG0.out.trans HG5.out) HBb.out).trans TT.out
       clear hg HZ4 HG4 HFj TT TL
       by_cases ht : tj = 2
       ·have e2 : ((tj : Int) == 2) = true := by simp [ht]
        rw [decide_eq_true ht, Bool.and_true] at HE1
        clear ht
        cases s <;> cases o <;> cases a
        all_goals
         go_wp2
         go_roundw
         case rel => exact ⟨j + 1, by omega, by go_num, (congrArg Value.bool HE1.out).symm, (congrArg Value.bool HE2.out).symm, HZ5.out, HG5.out⟩
         case measure => simp [intOf]; omega
       ·have e2 : ((tj : Int) == 2) = false := by simp; omega
        rw [decide_eq_false ht] at HE1
        clear ht
        cases s <;> cases o <;> cases a
        all_goals
         go_wp2
         go_roundw
         case rel => exact ⟨j + 1, by omega, by go_num, (congrArg Value.bool HE1.out).symm, (congrArg Value.bool HE2.out).symm, HZ5.out, HG5.out⟩
         case measure => simp [intOf]; omega
      ·have e1 : ((lk : Int) == (k : Int) + 1) = false := by rw [beq_eq_false_iff_ne]; omega
       rw [decide_eq_false hl, Bool.false_and, Bool.or_false] at HE1 HE2
       clear hl hlk HFj TT TL
       go_wp2
       go_roundw
       case rel => exact ⟨j + 1, by omega, by go_num, (congrArg Value.bool HE1.out).symm, (congrArg Value.bool HE2.out).symm, HZ4.out, HG4.out⟩
       case measure => simp [intOf]; omega
     ·have e : j = n2 := by omega
      subst e
      have d2 : decide ((j : Int) < (j : Int)) = false := decide_eq_false (by omega)
      generalize Fs j k = s at HGk ⊢
      generalize Ft j k = o at HGk ⊢
      cases Q with
      | true =>
       go_wp2_with (at_builtin; refine wpList_appendZ _ rfl (.tmp 81) (.tmp 83) 38 rfl W0.heap.size 4 (.bool false) 1 1 Try.underlying38 (by kernel_rfl) rfl (by omega) A k c (Rw k) rfl (HZ4.out.keep (Grow.of_alloc _ _)) _ _ #[.bool true] rfl (Blk.new _ _ _) rfl (by simp [Value.oneCell']) (by unfold maxLen; omega) (by omega) (HG4.out.trans (Grow.of_alloc _ _)).size ?_; intro A5 c5 w9 ho9 hg9 _; refine Hid.out ?_)
       have HZ9 : Hid (ZO w9 W0.heap.size 4 1 A5 (k + 1) c5 (Rw (k + 1))) := hid (by rw [HRk.out, show R = true from by rw [HGk.out]; rfl]; exact ho9)
       have HG9 := hid (grow_app (HG4.out.trans (Grow.of_alloc _ _)) (HZ4.out.keep (Grow.of_alloc _ _)) hg9)
       clear ho9 hg9 HZ4 HG4
       refine hid ?_
       go_wp2
       go_roundw
       case rel => exact ⟨k + 1, A5, c5, by omega, by go_num, rfl, HZ9.out, HG9.out⟩
       case measure => simp [intOf]; omega
      | false =>
       cases s with
       | false =>
        go_wp2_with (at_builtin; refine wpList_appendZ _ rfl (.tmp 81) (.tmp 83) 38 rfl W0.heap.size 4 (.bool false) 1 1 Try.underlying38 (by kernel_rfl) rfl (by omega) A k c (Rw k) rfl (HZ4.out.keep (Grow.of_alloc _ _)) _ _ #[.bool false] rfl (Blk.new _ _ _) rfl (by simp [Value.oneCell']) (by unfold maxLen; omega) (by omega) (HG4.out.trans (Grow.of_alloc _ _)).size ?_; intro A5 c5 w9 ho9 hg9 _; refine Hid.out ?_)
        have HZ9 : Hid (ZO w9 W0.heap.size 4 1 A5 (k + 1) c5 (Rw (k + 1))) := hid (by rw [HRk.out, show R = false from by rw [HGk.out]; rfl]; exact ho9)
        have HG9 := hid (grow_app (HG4.out.trans (Grow.of_alloc _ _)) (HZ4.out.keep (Grow.of_alloc _ _)) hg9)
        clear ho9 hg9 HZ4 HG4
        refine hid ?_
        go_wp2
        go_roundw
        case rel => exact ⟨k + 1, A5, c5, by omega, by go_num, rfl, HZ9.out, HG9.out⟩
        case measure => simp [intOf]; omega
       | true =>
        cases o with
        | false =>
         go_wp2_with (at_builtin; refine wpList_appendZ _ rfl (.tmp 81) (.tmp 83) 38 rfl W0.heap.size 4 (.bool false) 1 1 Try.underlying38 (by kernel_rfl) rfl (by omega) A k c (Rw k) rfl (HZ4.out.keep (Grow.of_alloc _ _)) _ _ #[.bool true] rfl (Blk.new _ _ _) rfl (by simp [Value.oneCell']) (by unfold maxLen; omega) (by omega) (HG4.out.trans (Grow.of_alloc _ _)).size ?_; intro A5 c5 w9 ho9 hg9 _; refine Hid.out ?_)
         have HZ9 : Hid (ZO w9 W0.heap.size 4 1 A5 (k + 1) c5 (Rw (k + 1))) := hid (by rw [HRk.out, show R = true from by rw [HGk.out]; rfl]; exact ho9)
         have HG9 := hid (grow_app (HG4.out.trans (Grow.of_alloc _ _)) (HZ4.out.keep (Grow.of_alloc _ _)) hg9)
         clear ho9 hg9 HZ4 HG4
         refine hid ?_
         go_wp2
         go_roundw
         case rel => exact ⟨k + 1, A5, c5, by omega, by go_num, rfl, HZ9.out, HG9.out⟩
         case measure => simp [intOf]; omega
        | true =>
         go_wp2_with (at_builtin; refine wpList_appendZ _ rfl (.tmp 81) (.tmp 83) 38 rfl W0.heap.size 4 (.bool false) 1 1 Try.underlying38 (by kernel_rfl) rfl (by omega) A k c (Rw k) rfl (HZ4.out.keep (Grow.of_alloc _ _)) _ _ #[.bool false] rfl (Blk.new _ _ _) rfl (by simp [Value.oneCell']) (by unfold maxLen; omega) (by omega) (HG4.out.trans (Grow.of_alloc _ _)).size ?_; intro A5 c5 w9 ho9 hg9 _; refine Hid.out ?_)
         have HZ9 : Hid (ZO w9 W0.heap.size 4 1 A5 (k + 1) c5 (Rw (k + 1))) := hid (by rw [HRk.out, show R = false from by rw [HGk.out]; rfl]; exact ho9)
         have HG9 := hid (grow_app (HG4.out.trans (Grow.of_alloc _ _)) (HZ4.out.keep (Grow.of_alloc _ _)) hg9)
         clear ho9 hg9 HZ4 HG4
         refine hid ?_
         go_wp2
         go_roundw
         case rel => exact ⟨k + 1, A5, c5, by omega, by go_num, rfl, HZ9.out, HG9.out⟩
         case measure => simp [intOf]; omega
   ·have HR2 : Hid (R = Q) := hid (by
     rw [HGk.out]
     cases M with
     | false => simp
     | true =>
      have : tk ≠ 3 := fun h => hcd ⟨rfl, h⟩
      simp [this])
    cases M with
    | false =>
     clear hcd HGk
     go_wp2_with (at_builtin; refine wpList_appendZ _ rfl (.tmp 81) (.tmp 83) 38 rfl W0.heap.size 4 (.bool false) 1 1 Try.underlying38 (by kernel_rfl) rfl (by omega) A k c (Rw k) rfl (HZ3.out.keep (Grow.of_alloc _ _)) _ _ #[.bool Q] rfl (Blk.new _ _ _) rfl (by simp [Value.oneCell']) (by unfold maxLen; omega) (by omega) (HG3.out.trans (Grow.of_alloc _ _)).size ?_; intro A5 c5 w9 ho9 hg9 _; refine Hid.out ?_)
     have HZ9 : Hid (ZO w9 W0.heap.size 4 1 A5 (k + 1) c5 (Rw (k + 1))) := hid (by rw [HRk.out, show R = Q from HR2.out]; exact ho9)
     have HG9 := hid (grow_app (HG3.out.trans (Grow.of_alloc _ _)) (HZ3.out.keep (Grow.of_alloc _ _)) hg9)
     clear ho9 hg9 HZ3 HG3
     refine hid ?_
     go_wp2
     go_roundw
     case rel => exact ⟨k + 1, A5, c5, by omega, by go_num, rfl, HZ9.out, HG9.out⟩
     case measure => simp [intOf]; omega
    | true =>
     have h3 : tk ≠ 3 := fun h => hcd ⟨rfl, h⟩
     have e3 : ((tk : Int) == 3) = false := by simp; omega
     clear hcd HGk h3
     go_wp2_with (at_builtin; refine wpList_appendZ _ rfl (.tmp 81) (.tmp 83) 38 rfl W0.heap.size 4 (.bool false) 1 1 Try.underlying38 (by kernel_rfl) rfl (by omega) A k c (Rw k) rfl (HZ3.out.keep (Grow.of_alloc _ _)) _ _ #[.bool Q] rfl (Blk.new _ _ _) rfl (by simp [Value.oneCell']) (by unfold maxLen; omega) (by omega) (HG3.out.trans (Grow.of_alloc _ _)).size ?_; intro A5 c5 w9 ho9 hg9 _; refine Hid.out ?_)
     have HZ9 : Hid (ZO w9 W0.heap.size 4 1 A5 (k + 1) c5 (Rw (k + 1))) := hid (by rw [HRk.out, show R = Q from HR2.out]; exact ho9)
     have HG9 := hid (grow_app (HG3.out.trans (Grow.of_alloc _ _)) (HZ3.out.keep (Grow.of_alloc _ _)) hg9)
     clear ho9 hg9 HZ3 HG3
     refine hid ?_
     go_wp2
     go_roundw
     case rel => exact ⟨k + 1, A5, c5, by omega, by go_num, rfl, HZ9.out, HG9.out⟩
     case measure => simp [intOf]; omega
  ·have e : k = n2 := by omega
   subst e
   have d1 : decide ((k : Int) < (k : Int)) = false := decide_eq_false (by omega)
   go_wp2
   go_ret
   exact ⟨A, c, rfl, HZo.out.mono HG0.out.size, HG0.out.trans HGw.out⟩
end Go.Proofs.Ytfbimboemahhhaa
