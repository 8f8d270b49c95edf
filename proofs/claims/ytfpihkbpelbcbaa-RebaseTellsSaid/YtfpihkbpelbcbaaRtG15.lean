/-
  Several texts in one: The contract of rebase; The contract of rebase; The contract of the statements' Few.
-/
import Derived.Test.YtfpihkbpelbcbaaRtG10
import Derived.Test.YtfpihkbpelbcbaaRtG14
import Derived.Laws.ResultCell
import Derived.Test.YtfpihkbpelbcbaaRtG3
namespace Go.Proofs.Ytfpihkbpelbcbaa
open Go.Lib (hid)
open Go.RowKit
set_option maxRecDepth 100000
set_option linter.unusedVariables false
def movTo {α : Type} (f : α → α) (l : List α) (k : Nat) : List α := (l.take k).map f ++ l.drop k
section
variable {α : Type} {f : α → α} {l : List α}
theorem movTo_zero : movTo f l 0 = l := by simp [movTo]
theorem movTo_all {n : Nat} (h : n = l.length) : movTo f l n = l.map f := by subst h; simp [movTo]
theorem movTo_len (k : Nat) : (movTo f l k).length = l.length := by simp [movTo]; omega
theorem movTo_at {k : Nat} (h : k < l.length) (h' : k < (movTo f l k).length) : (movTo f l k)[k] = l[k] := by
 have e : (movTo f l k)[k]? = l[k]? := by
  unfold movTo
  rw [List.getElem?_append_right (by simp; omega)]
  simp [Nat.min_eq_left (Nat.le_of_lt h)]
 rw [List.getElem?_eq_getElem h', List.getElem?_eq_getElem h] at e
 exact Option.some.inj e
theorem movTo_succ {k : Nat} (h : k < l.length) : movTo f l (k + 1) = (movTo f l k).set k (f l[k]) := by
 unfold movTo
 have e1 : ((l.take k).map f).length = k := by simp; omega
 rw [List.set_append_right _ _ (by omega), e1, Nat.sub_self, List.drop_eq_getElem_cons h, List.set_cons_zero, List.take_succ_eq_append_getElem h, List.map_append]
 simp
theorem movTo_same {k : Nat} (h : k < l.length) (he : f l[k] = l[k]) : movTo f l (k + 1) = movTo f l k := by
 rw [movTo_succ h]
 have h' : k < (movTo f l k).length := by rw [movTo_len]; exact h
 have : f l[k] = (movTo f l k)[k] := by rw [movTo_at h h', he]
 rw [this, List.set_getElem_self]
end
theorem ZO.offKind {w : World} {B : Nat} {e t : TypeId} {z : Nat} {A : Option Addr} {k c g : Nat} {R : List (Array Value)} {cs : Array Value} (h : ZO w B e z A k c R) (hb : Blk w g t cs) (ht : e ≠ t) : own A ≠ some g := fun he => by
 rcases h.1.2 with ⟨hv, _⟩ | ⟨g', cap, cur, hv, _, hh, _⟩
 ·injection hv with e1 _ _; subst e1; cases he
 ·injection hv with e1 _ _
  subst e1
  have e3 : g' = g := Option.some.inj he
  subst e3
  unfold Blk at hb
  rw [hb] at hh
  injection hh with hh
  injection hh with _ hh
  exact ht hh.symm
section
variable {B : Nat} {W W' : World} {m : Md} {A1 : Option Addr} {n1 c1 : Nat} {A2 : Option Addr} {n2 c2 : Nat} {S1 S2 : Nat → Sl}
theorem MW.past (h : MW B W m A1 n1 c1 A2 n2 c2 S1 S2) {g : Nat} {t : TypeId} {cs : Array Value} (hb : Blk W g t cs) (hu : 5 ≠ t) (h1 : 48 ≠ t) (h2 : 50 ≠ t) (hB : B ≤ g) (hg : W.grownBy W' (some g)) : MW B W' m A1 n1 c1 A2 n2 c2 S1 S2 :=
 ⟨h.s1.past hg (h.s1.row.offKind hb h1) (h.s1.offKind (by rw [← h.s1.len]; exact Nat.le_refl _) hb hu) hB h.hB,
  h.s2.past hg (h.s2.row.offKind hb h2) (h.s2.offKind (by rw [← h.s2.len]; exact Nat.le_refl _) hb hu) hB h.hB, h.p1, h.p3, Nat.le_trans h.hB hg.size⟩
def Md.setV (m : Md) (i v : Nat) : Md := { m with segs := m.segs.set i { m.segs.getD i sg0 with vaddr := v } }
def Md.setA (m : Md) (i v : Nat) : Md := { m with secs := m.secs.set i { m.secs.getD i se0 with addr := v } }
theorem getE_at {l : List Se} {i : Nat} (h : i < l.length) : l.getD i se0 = l[i] := by rw [List.getD_eq_getElem?_getD, List.getElem?_eq_getElem h]; rfl
theorem MW.seg {g3 i : Nat} {cur : Array Value} (h : MW B W m (some ⟨g3, 0, none⟩) n1 c1 A2 n2 c2 S1 S2) (hb : Blk W g3 48 cur) (hB : B ≤ g3) (hi : i < m.segs.length) (v : Nat) :
  MW B (W.setCell ⟨g3, i * 10 + 2, none⟩ (.int .u64 (v : Int))) (m.setV i v) (some ⟨g3, 0, none⟩) n1 c1 A2 n2 c2 S1 S2 := by
 have hin : i < n1 := by rw [h.s1.len]; exact hi
 have h1 := h.s1.cell (i := i) (p := 2) (v := .int .u64 (v : Int)) (a := { m.segs[i] with vaddr := v }) (s := S1 i) (q' := n1) hb (by decide) hB h.hB hi (by decide) rfl (Nat.le_refl _) (fun j a b => by omega) (fun _ => h.s1.own i hi hin) (fun a => absurd hin (by omega))
 rw [setS_self] at h1
 unfold Md.setV
 rw [getD_at hi]
 exact ⟨h1, h.s2.past (grown_set' _ _ _) (h.s2.row.offKind hb (by decide)) (h.s2.offKind (by rw [← h.s2.len]; exact Nat.le_refl _) hb (by decide)) hB h.hB, h.p1, h.p3, by simpa using h.hB⟩
theorem MW.sec {g4 i : Nat} {cur : Array Value} (h : MW B W m A1 n1 c1 (some ⟨g4, 0, none⟩) n2 c2 S1 S2) (hb : Blk W g4 50 cur) (hB : B ≤ g4) (hi : i < m.secs.length) (v : Nat) :
  MW B (W.setCell ⟨g4, i * 13 + 3, none⟩ (.int .u64 (v : Int))) (m.setA i v) A1 n1 c1 (some ⟨g4, 0, none⟩) n2 c2 S1 S2 := by
 have hin : i < n2 := by rw [h.s2.len]; exact hi
 have h1 := h.s2.cell (i := i) (p := 3) (v := .int .u64 (v : Int)) (a := { m.secs[i] with addr := v }) (s := S2 i) (q' := n2) hb (by decide) hB h.hB hi (by decide) rfl (Nat.le_refl _) (fun j a b => by omega) (fun _ => h.s2.own i hi hin) (fun a => absurd hin (by omega))
 rw [setS_self] at h1
 unfold Md.setA
 rw [getE_at hi]
 exact ⟨h.s1.past (grown_set' _ _ _) (h.s1.row.offKind hb (by decide)) (h.s1.offKind (by rw [← h.s1.len]; exact Nat.le_refl _) hb (by decide)) hB h.hB, h1, h.p1, h.p3, by simpa using h.hB⟩
end
def Md.mvTo (m : Md) (d k j : Nat) : Md := { m with entry := mvN d m.entry, segs := movTo (mvS d) m.segs k, secs := movTo (mvE d) m.secs j }
theorem mvTo_seg (m : Md) (d k : Nat) (h : k < m.segs.length) : ∃ h' : k < (m.mvTo d k 0).segs.length, (m.mvTo d k 0).segs[k] = m.segs[k] ∧ (m.mvTo d k 0).setV k (mvA m.segs[k].vaddr d) = m.mvTo d (k + 1) 0 := by
 have h' : k < (movTo (mvS d) m.segs k).length := by rw [movTo_len]; exact h
 refine ⟨h', movTo_at h h', ?_⟩
 unfold Md.setV Md.mvTo
 simp only [getD_at h', movTo_at h h']
 rw [movTo_succ h]
 rfl
theorem mvTo_sec (m : Md) (d k j : Nat) (h : j < m.secs.length) : ∃ h' : j < (m.mvTo d k j).secs.length, (m.mvTo d k j).secs[j] = m.secs[j] ∧ (m.secs[j].isIn = true → (m.mvTo d k j).setA j (mvA m.secs[j].addr d) = m.mvTo d k (j + 1)) ∧ (m.secs[j].isIn = false → m.mvTo d k (j + 1) = m.mvTo d k j) := by
 have h' : j < (movTo (mvE d) m.secs j).length := by rw [movTo_len]; exact h
 refine ⟨h', movTo_at h h', fun hin => ?_, fun hin => ?_⟩
 ·unfold Md.setA Md.mvTo
  simp only [getE_at h', movTo_at h h']
  rw [movTo_succ h]
  unfold mvE
  rw [hin, if_pos rfl]
 ·unfold Md.mvTo
  rw [movTo_same h (by unfold mvE; rw [hin]; rfl)]
theorem mvTo_all (m : Md) (d : Nat) {n1 n2 : Nat} (h1 : n1 = m.segs.length) (h2 : n2 = m.secs.length) : m.mvTo d n1 n2 = m.moved d := by
 unfold Md.mvTo Md.moved
 rw [movTo_all h1, movTo_all h2]
theorem mvTo_zero (m : Md) (d : Nat) : m.mvTo d 0 0 = { m with entry := mvN d m.entry } := by
 unfold Md.mvTo
 rw [movTo_zero, movTo_zero]
set_option maxHeartbeats 8000000 in
theorem rbNums_any (m : Md) (ok : m.Ok) (B : Nat) (A1 : Option Addr) (n1 c1 : Nat) (A2 : Option Addr) (n2 c2 : Nat) (S1 S2 : Nat → Sl) (gn d : Nat) (w : World) (h : MW B w m A1 n1 c1 A2 n2 c2 S1 S2) (hb : Blk w gn 32 (mdC m (.slice A1 n1 c1) (.slice A2 n2 c2))) (hB : B ≤ gn) (hd : d < 18446744073709551616) :
  Calls Try.prog 19 #[.pointer (some ⟨gn, 0, none⟩), .int .u64 (d : Int)] w fun e w' => e = .returned (.tuple #[]) ∧ MW B w' (m.moved d) A1 n1 c1 A2 n2 c2 S1 S2 ∧ Blk w' gn 32 (mdC (m.moved d) (.slice A1 n1 c1) (.slice A2 n2 c2)) ∧ Below B w w' := by
 have hn1 := h.s1.len
 have hn2 := h.s2.len
 have HSeg := hid (mvTo_seg m d)
 have HSec := hid (mvTo_sec m d n1)
 have HAll := hid (mvTo_all m d hn1 hn2)
 have H00 := hid (mvTo_zero m d)
 have HLd := hid (fun (s : Se) (hs : s ∈ m.secs) S W => rbLoaded_any s (ok.secs s hs) S W)
 have HVa := hid (fun k (hk : k < m.segs.length) => (ok.segs _ (List.getElem_mem hk)).vaddr)
 have HAa := hid (fun k (hk : k < m.secs.length) => (ok.secs _ (List.getElem_mem hk)).addr)
 have hen := ok.entry
 have HN1 := hid hn1
 have HN2 := hid hn2
 have hc1 := h.zr1.cap
 have hm1 := h.zr1.max
 have hc2 := h.zr2.cap
 have hm2 := h.zr2.max
 unfold maxLen at hm1 hm2
 have HEn : Hid (mvN d m.entry = if m.entry = 0 then 0 else (m.entry + d) % 18446744073709551616) := hid rfl
 obtain ⟨x0, x1, x2, x3, x4, x5, x6, x10, hC⟩ : ∃ x0 x1 x2 x3 x4 x5 x6 x10 : Value, ∀ m' : Md, m'.wide = m.wide → m'.big = m.big → m'.osabi = m.osabi → m'.abi = m.abi → m'.typ = m.typ → m'.mach = m.mach → m'.flags = m.flags → m'.str = m.str → mdC m' (.slice A1 n1 c1) (.slice A2 n2 c2) = #[x0, x1, x2, x3, x4, x5, x6, .int .u64 (m'.entry : Nat), .slice A1 n1 c1, .slice A2 n2 c2, x10] :=
  ⟨_, _, _, _, _, _, _, _, fun m' h1 h2 h3 h4 h5 h6 h7 h8 => by unfold mdC; rw [h1, h2, h3, h4, h5, h6, h7, h8]⟩
 have hCm := hC m rfl rfl rfl rfl rfl rfl rfl rfl
 have hCd := hC (m.moved d) rfl rfl rfl rfl rfl rfl rfl rfl
 rw [hCm] at hb
 rw [hCd]
 have HMe : Hid ((m.moved d).entry = mvN d m.entry) := hid rfl
 rw [HMe.out]
 have HM := hid h
 have HB := hid hb
 have HGn := hid hB
 have HMM : Hid (∀ W, MW B W m A1 n1 c1 A2 n2 c2 S1 S2 → MW B W (m.mvTo d 0 0) A1 n1 c1 A2 n2 c2 S1 S2) := hid fun W hW => by
  rw [H00.out]
  exact ⟨hW.s1, hW.s2, hW.p1, hW.p3, hW.hB⟩
 clear hC hCm hCd hb h hB ok hn1 hn2 H00 HMe
 generalize hE : mvN d m.entry = en' at *
 have HE := hid hE
 clear hE
 generalize m.entry = en at *
 generalize m.moved d = MD at *
 generalize hM0 : m.mvTo d = MV at *
 clear hM0
 rcases Nat.eq_zero_or_pos en with h0 | h0
 case' inl =>
  subst h0
  have he' : en' = 0 := HEn.out.trans (if_pos rfl)
  have c7 : w.cell? ⟨gn, 7, none⟩ = some (.int .u64 0) := HB.out.at 7
  have c8 : w.cell? ⟨gn, 8, none⟩ = some (.slice A1 n1 c1) := HB.out.at 8
  have HI := hid (HMM.out w HM.out)
  have HBm : Hid (Blk w gn 32 #[x0, x1, x2, x3, x4, x5, x6, .int .u64 (en' : Int), .slice A1 n1 c1, .slice A2 n2 c2, x10]) := hid (by rw [he']; exact HB.out)
  have HBl := hid (Below.refl B w)
  clear HMM HM HB HE HEn he'
  go_enter Try.func19, Try.ntmps19
  go_wp2_with fail
  clear c7 c8
  clear HBl
  generalize hw1 : w = w1 at HI HBm ⊢
  have HBl : Hid (Below B w w1) := hid (by rw [← hw1]; exact Below.refl B w)
  clear hw1
 case' inr =>
  have e0 : ((en : Int) != 0) = true := by simp; omega
  have he' : en' = (en + d) % 18446744073709551616 := HEn.out.trans (if_neg (by omega))
  have z1 : IntKind.u64.wrap ((en : Int) + (d : Int)) = (en' : Int) := by rw [IntKind.wrap_u64, he']; omega
  have c7 : w.cell? ⟨gn, 7, none⟩ = some (.int .u64 (en : Int)) := HB.out.at 7
  have s7 := HB.out.soft 7
  have e9 := setCell_eq_setRow w gn 7 _ 32 (0, 0) (.int .u64 (en' : Int)) HB.out
  have hBm : Blk (w.setCell ⟨gn, 7, none⟩ (.int .u64 (en' : Int))) gn 32 #[x0, x1, x2, x3, x4, x5, x6, .int .u64 (en' : Int), .slice A1 n1 c1, .slice A2 n2 c2, x10] := by rw [e9]; exact HB.out.set _
  have HBm := hid hBm
  have HI := hid (HMM.out _ (HM.out.past HB.out (by decide) (by decide) (by decide) HGn.out (grown_set' w ⟨gn, 7, none⟩ (.int .u64 (en' : Int)))))
  have HBl : Hid (Below B w (w.setCell ⟨gn, 7, none⟩ (.int .u64 (en' : Int)))) := hid (Below.setCell (Below.refl B w) (p := ⟨gn, 7, none⟩) HGn.out _)
  have c8 : (w.setCell ⟨gn, 7, none⟩ (.int .u64 (en' : Int))).cell? ⟨gn, 8, none⟩ = some (.slice A1 n1 c1) := hBm.at 8
  clear hBm e9 HMM HM HB HE HEn he'
  go_enter Try.func19, Try.ntmps19
  go_wp2_with fail
  clear c7 c8 s7 z1 e0
  generalize w.setCell ⟨gn, 7, none⟩ (.int .u64 (en' : Int)) = w1 at HI HBm HBl ⊢
 all_goals
  try clear h0
  go_loopw [25] (fun i wr => ∃ k : Nat, k ≤ n1 ∧ i = .int .i64 k ∧ MW B wr (MV k 0) A1 n1 c1 A2 n2 c2 S1 S2 ∧ Blk wr gn 32 #[x0, x1, x2, x3, x4, x5, x6, .int .u64 (en' : Int), .slice A1 n1 c1, .slice A2 n2 c2, x10] ∧ Below B w wr) (fun i _ => n1 - (intOf i).toNat)
  case atStart => exact ⟨0, Nat.zero_le _, rfl, HI.out, HBm.out, HBl.out⟩
  case round =>
   obtain ⟨k, hk, rfl, hm, hb, hbl⟩ := hrel
   have HI1 := hid hm
   have HB1 := hid hb
   have HL1 := hid hbl
   clear hm hb hbl HI HBm HBl
   by_cases hlt : k < n1
   ·have hkl : k < m.segs.length := by rw [← HN1.out]; exact hlt
    obtain ⟨h', hseg, hset⟩ := HSeg.out k hkl
    have hkr : k < (rowsOf sgK (MV k 0).segs S1).length := by rw [rowsOf_len]; exact h'
    obtain ⟨g3, cur, hA1, hb3, hB3, hle3, hcell⟩ := HI1.out.s1.row.openAt hkr
    subst hA1
    rw [rowsOf_at hkr h', hseg] at hcell
    have q2 : wr.cell? ⟨g3, k * 10 + 2, none⟩ = some (.int .u64 (m.segs[k].vaddr : Nat)) := (hb3.at _).trans (hcell 2 (by decide))
    have s2 := hb3.soft (k * 10 + 2)
    have c8 : wr.cell? ⟨gn, 8, none⟩ = some (.slice (some ⟨g3, 0, none⟩) n1 c1) := HB1.out.at 8
    have hv := HVa.out k hkl
    have z1 : IntKind.u64.wrap ((m.segs[k].vaddr : Int) + (d : Int)) = ((mvA m.segs[k].vaddr d : Nat) : Int) := by rw [IntKind.wrap_u64]; unfold mvA; omega
    have HI2 := hid (HI1.out.seg hb3 hB3 h' (mvA m.segs[k].vaddr d))
    rw [hset] at HI2
    have HB2 := hid (HB1.out.cellset (a := ⟨g3, k * 10 + 2, none⟩) (HB1.out.apart hb3 (by decide)) (.int .u64 ((mvA m.segs[k].vaddr d : Nat) : Int)))
    have HL2 := hid (Below.setCell HL1.out (p := ⟨g3, k * 10 + 2, none⟩) hB3 (.int .u64 ((mvA m.segs[k].vaddr d : Nat) : Int)))
    generalize mvA m.segs[k].vaddr d = v' at *
    generalize m.segs[k].vaddr = v at *
    have w0 : (0 : Int) ≤ (k : Int) := by omega
    have w1' : (k : Int) < (n1 : Int) := by omega
    clear hset hseg hcell hb3 hB3 hle3 hkr h' hkl HI1 HB1 HL1 hv
    go_wp2_with fail
    clear q2 s2 c8 z1
    go_roundw
    case rel => exact ⟨k + 1, by omega, by go_num, HI2.out, HB2.out, HL2.out⟩
    case measure => simp [intOf]; omega
   ·have e : k = n1 := by omega
    subst e
    have d1 : decide ((k : Int) < (k : Int)) = false := decide_eq_false (by omega)
    have c9 : wr.cell? ⟨gn, 9, none⟩ = some (.slice A2 n2 c2) := HB1.out.at 9
    go_wp2_with fail
    clear c9 d1 hlt
    generalize hwq : wr = wq at HI1 HB1 HL1 ⊢
    clear hwq
    go_loopw [46] (fun i wr => ∃ j : Nat, j ≤ n2 ∧ i = .int .i64 j ∧ MW B wr (MV k j) A1 k c1 A2 n2 c2 S1 S2 ∧ Blk wr gn 32 #[x0, x1, x2, x3, x4, x5, x6, .int .u64 (en' : Int), .slice A1 k c1, .slice A2 n2 c2, x10] ∧ Below B w wr) (fun i _ => n2 - (intOf i).toNat)
    case atStart => exact ⟨0, Nat.zero_le _, rfl, HI1.out, HB1.out, HL1.out⟩
    case round =>
     obtain ⟨j, hj, rfl, hm, hb, hbl⟩ := hrel
     have HI2 := hid hm
     have HB2 := hid hb
     have HL2 := hid hbl
     clear hm hb hbl HI1 HB1 HL1
     by_cases hlt : j < n2
     ·have hjl : j < m.secs.length := by rw [← HN2.out]; exact hlt
      obtain ⟨h', hsec, hset, hsame⟩ := HSec.out j hjl
      have hjr : j < (rowsOf seK (MV k j).secs S2).length := by rw [rowsOf_len]; exact h'
      obtain ⟨g4, cur, hA2, hb4, hB4, hle4, hcell⟩ := HI2.out.s2.row.openAt hjr
      subst hA2
      have hz := HI2.out.s2.row.zs
      have hrow : ∀ hk : j < (rowsOf seK (MV k j).secs S2).length, (rowsOf seK (MV k j).secs S2)[j] = seC m.secs[j] (sv (S2 j)) := fun hk => by rw [rowsOf_at hk h', hsec]; rfl
      rw [rowsOf_at hjr h', hsec] at hcell
      have hLd := HLd.out m.secs[j] (List.getElem_mem hjl) (sv (S2 j))
      have HSt := hid hset
      have HSm := hid hsame
      have HHp := hid h'
      have hq3 := hcell 3 (by decide)
      have hav := HAa.out j hjl
      have hz1 : IntKind.u64.wrap ((m.secs[j].addr : Int) + (d : Int)) = ((mvA m.secs[j].addr d : Nat) : Int) := by rw [IntKind.wrap_u64]; unfold mvA; omega
      have HZ := hid hz
      have HRw := hid hrow
      have HJr := hid hjr
      have HBk := hid hb4
      have HBg := hid hB4
      have HLk := hid hLd
      have HQ3 := hid hq3
      clear hset hsame hsec hcell hb4 hB4 hle4 hjr h' hz hrow hLd hq3 hav
      unfold seC at HRw HLk
      have HQ4 : Hid (cur[j * 13 + 3]? = some (.int .u64 (m.secs[j].addr : Nat))) := HQ3
      clear HQ3
      generalize mvA m.secs[j].addr d = v' at *
      generalize m.secs[j].isIn = ii at *
      generalize m.secs[j].name = y0 at *
      generalize m.secs[j].typ = y1 at *
      generalize m.secs[j].flags = y2 at *
      generalize m.secs[j].addr = y3 at *
      generalize m.secs[j].size = y4 at *
      generalize m.secs[j].link = y5 at *
      generalize m.secs[j].info = y6 at *
      generalize m.secs[j].align = y7 at *
      generalize m.secs[j].entsize = y8 at *
      generalize m.secs[j].pl.inn = y9 at *
      generalize m.secs[j].pl.off = y10 at *
      generalize m.secs[j].pl.size = y11 at *
      obtain ⟨B1, k1, e1, hSk⟩ : ∃ B1 k1 e1, sv (S2 j) = .slice B1 k1 e1 := ⟨_, _, _, rfl⟩
      rw [hSk] at HRw HLk
      have w0 : (0 : Int) ≤ (j : Int) := by omega
      have w1' : (j : Int) < (n2 : Int) := by omega
      have HZ' : Hid (ZS wr wr.heap.size 13 (some ⟨g4, 0, none⟩) n2 c2 (rowsOf seK (MV k j).secs S2)) := HZ
      clear HZ hSk hjl
      go_wp2_with (refine wpList_load_zs HZ'.out HJr.out rfl 50 (.tmp 49) rfl (by rw [Nat.zero_add]; rfl) _ Try.underlying50 rfl (by kernel_rfl) _ (HRw.out _) ?_)
      generalize hW : World.alloc _ _ = w3
      obtain ⟨be, hg3⟩ := blk1 hW
      clear hW
      have HI3 := hid (HI2.out.grow hg3)
      have HB3 := hid (HB2.out.grow hg3)
      have HL3 : Hid (Below B w w3) := hid (HL2.out.trans (Below.mono hg3 HI2.out.hB))
      have HK3 := hid (HBk.out.grow hg3)
      obtain ⟨t0, t1, t2, t3, t4, t5, t6, t7, t8, t9, t10, t11, t12⟩ := be.c13
      clear be hg3 HI2 HB2 HL2 HBk HZ' HRw HJr
      generalize wr.heap.size = ge at *
      go_wp2_with fail
      clear t0 t1 t2 t3 t4 t5 t6 t7 t8 t9 t10 t11 t12
      refine (HLk.out w3).mono ?_
      rintro e w4 ⟨rfl, hg4⟩
      have HI4 := hid (HI3.out.grow hg4)
      have HB4 := hid (HB3.out.grow hg4)
      have HL4 : Hid (Below B w w4) := hid (HL3.out.trans (Below.mono hg4 HI3.out.hB))
      have HK4 := hid (HK3.out.grow hg4)
      clear hg4 HI3 HB3 HL3 HK3 HLk
      cases ii with
      | false =>
       have hE := HSm.out rfl
       rw [← hE] at HI4
       clear hE
       go_wp2
       go_roundw
       case rel => exact ⟨j + 1, by omega, by go_num, HI4.out, HB4.out, HL4.out⟩
       case measure => simp [intOf]; omega
      | true =>
       have hE := HSt.out rfl
       have HI5 := hid (HI4.out.sec HK4.out HBg.out HHp.out v')
       rw [hE] at HI5
       have HB5 := hid (HB4.out.cellset (a := ⟨g4, j * 13 + 3, none⟩) (HB4.out.apart HK4.out (by decide)) (.int .u64 (v' : Int)))
       have HL5 := hid (Below.setCell HL4.out (p := ⟨g4, j * 13 + 3, none⟩) HBg.out (.int .u64 (v' : Int)))
       have q3 : w4.cell? ⟨g4, j * 13 + 3, none⟩ = some (.int .u64 (y3 : Nat)) := (HK4.out.at _).trans HQ4.out
       have s3 := HK4.out.soft (j * 13 + 3)
       have c9 : w4.cell? ⟨gn, 9, none⟩ = some (.slice (some ⟨g4, 0, none⟩) n2 c2) := HB4.out.at 9
       clear hE HI4 HB4 HL4 HK4
       go_wp2_with fail
       clear q3 s3 c9
       go_roundw
       case rel => exact ⟨j + 1, by omega, by go_num, HI5.out, HB5.out, HL5.out⟩
       case measure => simp [intOf]; omega
     ·have e : j = n2 := by omega
      subst e
      rw [HAll.out] at HI2
      go_wp2
      go_end0
      exact ⟨rfl, HI2.out, HB2.out, HL2.out⟩
set_option maxRecDepth 100000
set_option linter.unusedVariables false
theorem GH.low {α : Type} {K : RK α} {w w' : World} {B : Nat} {e : TypeId} {A : Option Addr} {k c : Nat} {L : List α} {S : Nat → Sl} {q g : Nat} (h : GH K w B e A k c L S q) (hq : L.length ≤ q) (hg : w.grownBy w' (some g)) (hlt : g < B) : GH K w' B e A k c L S q :=
 ⟨h.row.past hg (.inr fun he => by have := h.row.ge he; omega), fun j hj h1 => (h.own j hj h1).passed hg (.inr fun he => by have := ((h.own j hj h1).from_ he).1; omega), fun j hj h1 => absurd hj (by omega)⟩
theorem chk_small {m : Md} (h : m.chk = 0) : m.segs.length ≤ 16 ∧ m.secs.length ≤ 64 := by
 unfold Md.chk at h
 split at h
 ·omega
 ·rename_i h1
  unfold Md.large at h1
  simp at h1
  exact h1
theorem rb_ret {K : Ending → World → Prop} {W : World} {tmps : Array Value} {g : Nat} {ev : Value} {cs : Array Value} (ht : tmps.getD 4 undef = .pointer (some ⟨g, 0, none⟩)) (he : tmps.getD 5 undef = ev) (hz : cs.size = 11)
  (hx : Blk W g 32 cs) (hk : K (.returned (.tuple #[.agg cs, ev])) W) : bodyPost Try.prog Try.f7 K .ret ⟨tmps, []⟩ W := by
 refine bodyPost_ret (v := .tuple #[.agg cs, ev]) ?_ rfl hk
 rw [results_cell_tmp rfl, ht, he]
 simp [asAddr, Result.andThen, hx.var _ _ Try.underlying32 rfl (by rw [hz]; kernel_rfl)]
theorem rbM_zero {m : Md} {d : Nat} (h : m.rbC d = 0) : m.rbM d = m.rebase d := if_pos h
theorem rbM_bad {m : Md} {d : Nat} (h : m.rbC d ≠ 0) : m.rbM d = md0 := if_neg h
set_option maxHeartbeats 8000000 in
theorem rebase_any (m : Md) (ok : m.Ok) (hck : m.chk = 0) (hsm : m.Small) (hs2 : ∀ s ∈ m.secs, s.pl.own.length ≤ 100000) (A1 : Option Addr) (n1 c1 : Nat) (A2 : Option Addr) (n2 c2 : Nat) (d : Nat) (w : World) (g1 : ZR sgK w w.heap.size A1 n1 c1 m.segs) (g2 : ZR seK w w.heap.size A2 n2 c2 m.secs) (hd : d < 18446744073709551616) :
  Calls Try.prog 7 #[.agg (mdC m (.slice A1 n1 c1) (.slice A2 n2 c2)), .int .u64 (d : Int)] w fun e w' => ∃ A3 n3 c3 A4 n4 c4, e = .returned (.tuple #[.agg (mdC (m.rbM d) (.slice A3 n3 c3) (.slice A4 n4 c4)), eC (m.rbC d)]) ∧ ZR sgK w' w'.heap.size A3 n3 c3 (m.rbM d).segs ∧ ZR seK w' w'.heap.size A4 n4 c4 (m.rbM d).secs ∧ Grow w w' := by
 obtain ⟨hf1, hf2⟩ := chk_small hck
 have hn1 := g1.len
 have hn2 := g2.len
 have HCk := hid (fun W (hW : Grow w W) => rbCheck_any m ok hck A1 n1 c1 A2 n2 c2 d W (g1.grow hW) (g2.grow hW) hd)
 have HCl := hid (fun W (hW : Grow w W) => rbClone_any m A1 A2 n1 c1 n2 c2 W (g1.grow hW) (g2.grow hW) (by omega) (by omega) (fun s hs => Nat.le_trans (hsm s hs) (by decide)) (fun s hs => Nat.le_trans (hs2 s hs) (by decide)))
 have HWo := hid (fun B A3 c3 A4 c4 S1 S2 W (hW : MW B W m A3 n1 c3 A4 n2 c4 S1 S2) => rbWords_any m ok hck hsm B A3 n1 c3 A4 n2 c4 S1 S2 d W hW hd)
 have HNu : Hid (∀ B A3 c3 A4 c4 S1 S2 gn W, MW B W (m.withB (m.words d)) A3 n1 c3 A4 n2 c4 S1 S2 → Blk W gn 32 (mdC m (.slice A3 n1 c3) (.slice A4 n2 c4)) → B ≤ gn → Calls Try.prog 19 #[.pointer (some ⟨gn, 0, none⟩), .int .u64 (d : Int)] W fun e w' => e = .returned (.tuple #[]) ∧ MW B w' (m.rebase d) A3 n1 c3 A4 n2 c4 S1 S2 ∧ Blk w' gn 32 (mdC (m.rebase d) (.slice A3 n1 c3) (.slice A4 n2 c4)) ∧ Below B W w') :=
  hid fun B A3 c3 A4 c4 S1 S2 gn W h1 h2 h3 => rbNums_any (m.withB (m.words d)) (withB_ok ok _) B A3 n1 c3 A4 n2 c4 S1 S2 gn d W h1 h2 h3 hd
 have HM0 := hid (fun h => rbM_zero (m := m) (d := d) h)
 have HM1 := hid (fun h => rbM_bad (m := m) (d := d) h)
 obtain ⟨x0, x1, x2, x3, x4, x5, x6, x7, x10, hC⟩ : ∃ x0 x1 x2 x3 x4 x5 x6 x7 x10 : Value, (∀ s t, mdC m s t = #[x0, x1, x2, x3, x4, x5, x6, x7, s, t, x10]) ∧ (x0.oneCell' = true ∧ x1.oneCell' = true ∧ x2.oneCell' = true ∧ x3.oneCell' = true ∧ x4.oneCell' = true ∧ x5.oneCell' = true ∧ x6.oneCell' = true ∧ x7.oneCell' = true ∧ x10.oneCell' = true) := ⟨_, _, _, _, _, _, _, _, _, fun _ _ => rfl, by simp [Value.oneCell']⟩
 obtain ⟨y0, y1, y2, y3, y4, y5, y6, y7, y10, hD⟩ : ∃ x0 x1 x2 x3 x4 x5 x6 x7 x10 : Value, (∀ s t, mdC (m.rebase d) s t = #[x0, x1, x2, x3, x4, x5, x6, x7, s, t, x10]) ∧ (x0.oneCell' = true ∧ x1.oneCell' = true ∧ x2.oneCell' = true ∧ x3.oneCell' = true ∧ x4.oneCell' = true ∧ x5.oneCell' = true ∧ x6.oneCell' = true ∧ x7.oneCell' = true ∧ x10.oneCell' = true) := ⟨_, _, _, _, _, _, _, _, _, fun _ _ => rfl, by simp [Value.oneCell']⟩
 obtain ⟨hC, hO⟩ := hC
 obtain ⟨hD, hOD⟩ := hD
 have HOne := hid hO
 have HTwo := hid hOD
 have HD := hid hD
 rw [hC] at HCk
 simp only [hC] at HCl HWo HNu ⊢
 simp only [hD] at HNu
 clear hC hD hO hOD g1 g2 ok hck hsm hs2 hf1 hf2 hn1 hn2
 generalize m.rbM d = RM_ at *
 generalize m.rebase d = RB_ at *
 generalize m.rbC d = rc at *
 generalize m.words d = wds at *
 go_enter Try.func7, Try.ntmps7
 go_wp2_with fail
 generalize hW : World.alloc _ _ = W0
 obtain ⟨b1, b2, hg0⟩ := blk2 hW
 clear hW
 obtain ⟨gm, hgm⟩ : ∃ g, g = w.heap.size := ⟨_, rfl⟩
 have HGr : Hid (w.heap.size ≤ gm + 1) := hid (by omega)
 rw [← hgm] at b1 b2 ⊢
 obtain ⟨v0, v1, v2, v3, v4, v5, v6, v7, v8, v9, v10⟩ := b1.c11
 have HB0 := hid b1
 have HR0 := hid b2
 have HG0 := hid hg0
 clear b1 b2 hg0 hgm
 generalize gm + 1 = gr at *
 go_wp2_with fail
 clear v0 v1 v2 v3 v4 v5 v6 v7 v8 v9 v10
 refine (HCk.out W0 HG0.out).mono ?_
 rintro e w1 ⟨rfl, hg⟩
 have HB1 := hid (HB0.out.grow hg)
 have HR1 := hid (HR0.out.grow hg)
 have HG1 : Hid (Grow w w1) := hid (HG0.out.trans hg)
 clear hg HB0 HR0 HG0 HCk
 by_cases h0 : rc = 0
 ·have hM := HM0.out h0
  subst hM
  subst h0
  rw [eC_zero]
  obtain ⟨v0, v1, v2, v3, v4, v5, v6, v7, v8, v9, v10⟩ := HB1.out.c11
  go_wp2_with fail
  clear v0 v1 v2 v3 v4 v5 v6 v7 v8 v9 v10
  refine (HCl.out w1 HG1.out).mono ?_
  rintro e w2 ⟨A3, c3, A4, c4, S1, S2, rfl, hs1, hs2, hp1, hp3, hg⟩
  have HM2 : Hid (MW w1.heap.size w2 m A3 n1 c3 A4 n2 c4 S1 S2) := hid ⟨hs1, hs2, hp1, hp3, hg.size⟩
  have HR2 := hid (HR1.out.grow hg)
  have HG2 : Hid (Grow w w2) := hid (HG1.out.trans hg)
  have HSz : Hid (w.heap.size ≤ w1.heap.size ∧ gr < w1.heap.size ∧ w1.heap.size ≤ w2.heap.size) := hid ⟨HG1.out.size, HR1.out.lt, hg.size⟩
  clear hs1 hs2 hp1 hp3 hg HB1 HR1 HG1 HCl
  obtain ⟨o0, o1, o2, o3, o4, o5, o6, o7, o10⟩ := HOne.out
  have hall : (#[x0, x1, x2, x3, x4, x5, x6, x7, .slice A3 n1 c3, .slice A4 n2 c4, x10] : Array Value).all (·.oneCell') = true := by
   simp only [List.all_toArray, List.all_cons, List.all_nil, o0, o1, o2, o3, o4, o5, o6, o7, o10, Bool.true_and, Bool.and_true]
   rfl
  have HAll := hid hall
  clear o0 o1 o2 o3 o4 o5 o6 o7 o10 hall
  go_wp2_with (refine wpList_store_row rfl 32 (.tmp 7) (.tmp 16) rfl w2.heap.size _ rfl rfl _ _ (Blk.new _ _ _) (by kernel_rfl) rfl HAll.out ?_; rw [World.setRow_alloc_new]; refine Hid.out ?_)
  generalize hW : World.alloc _ _ = w3
  obtain ⟨bn, hg⟩ := blk1 hW
  clear hW
  have HM3 := hid (HM2.out.grow hg)
  have HR3 := hid (HR2.out.grow hg)
  have HN3 := hid bn
  have HG3 : Hid (Grow w w3) := hid (HG2.out.trans hg)
  obtain ⟨gn, hgn⟩ : ∃ gn, gn = w2.heap.size := ⟨_, rfl⟩
  have HGn : Hid (w1.heap.size ≤ gn) := hid (by have := HSz.out; omega)
  rw [← hgn] at HN3 ⊢
  clear bn hg hgn HM2 HR2 HG2
  refine hid ?_
  obtain ⟨v0, v1, v2, v3, v4, v5, v6, v7, v8, v9, v10⟩ := HN3.out.c11
  go_wp2_with fail
  clear v0 v1 v2 v3 v4 v5 v6 v7 v8 v9 v10
  refine (HWo.out w1.heap.size A3 c3 A4 c4 S1 S2 w3 HM3.out).mono ?_
  rintro e w4 ⟨rfl, hm4, ht⟩
  have HM4 := hid hm4
  have HR4 := hid (HR3.out.turn ht (by decide))
  have HN4 := hid (HN3.out.turn ht (by decide))
  have HG4 : Hid (Grow w w4) := hid (ht.grow HG3.out HSz.out.1)
  clear hm4 ht HM3 HR3 HN3 HG3 HWo
  go_wp2_with fail
  refine (HNu.out w1.heap.size A3 c3 A4 c4 S1 S2 gn w4 HM4.out HN4.out HGn.out).mono ?_
  rintro e w5 ⟨rfl, hm5, hn5, hb⟩
  have HM5 := hid hm5
  have HN5 := hid hn5
  have HR5 := hid (HR4.out.below hb HSz.out.2.1)
  have HG5 : Hid (Grow w w5) := hid (HG4.out.trans' (hb.mono HSz.out.1))
  clear hm5 hn5 hb HM4 HN4 HR4 HG4 HNu
  obtain ⟨v0, v1, v2, v3, v4, v5, v6, v7, v8, v9, v10⟩ := HN5.out.c11
  obtain ⟨o0, o1, o2, o3, o4, o5, o6, o7, o10⟩ := HTwo.out
  have hall : (#[y0, y1, y2, y3, y4, y5, y6, y7, .slice A3 n1 c3, .slice A4 n2 c4, y10] : Array Value).all (·.oneCell') = true := by
   simp only [List.all_toArray, List.all_cons, List.all_nil, o0, o1, o2, o3, o4, o5, o6, o7, o10, Bool.true_and, Bool.and_true]
   rfl
  have HAll2 := hid hall
  clear o0 o1 o2 o3 o4 o5 o6 o7 o10 hall
  go_wp2_with (refine wpList_store_row rfl 32 (.tmp 4) (.tmp 22) rfl gr _ rfl rfl _ _ HR5.out (by kernel_rfl) rfl HAll2.out ?_)
  clear v0 v1 v2 v3 v4 v5 v6 v7 v8 v9 v10
  have HR6 := hid (HR5.out.set #[y0, y1, y2, y3, y4, y5, y6, y7, .slice A3 n1 c3, .slice A4 n2 c4, y10])
  have HG6 := hid (HG5.out.set HGr.out #[y0, y1, y2, y3, y4, y5, y6, y7, .slice A3 n1 c3, .slice A4 n2 c4, y10])
  have hgr : w5.grownBy (w5.setRow gr #[y0, y1, y2, y3, y4, y5, y6, y7, .slice A3 n1 c3, .slice A4 n2 c4, y10]) (some gr) := ⟨rfl, rfl, rfl, by simp, fun j _ hj => setRow_other w5 gr j _ (fun e => hj (by rw [e]))⟩
  have hs5 : w1.heap.size ≤ (w5.setRow gr #[y0, y1, y2, y3, y4, y5, y6, y7, .slice A3 n1 c3, .slice A4 n2 c4, y10]).heap.size := by simpa using HM5.out.hB
  have HZ1 := hid ((HM5.out.s1.low (by rw [← HM5.out.s1.len]; exact Nat.le_refl _) hgr HSz.out.2.1).zr hs5)
  have HZ2 := hid ((HM5.out.s2.low (by rw [← HM5.out.s2.len]; exact Nat.le_refl _) hgr HSz.out.2.1).zr hs5)
  try simp only [Exit.inBlock, Exit.then]
  refine rb_ret rfl rfl rfl HR6.out ?_
  exact ⟨A3, n1, c3, A4, n2, c4, by rw [HD.out]; rfl, HZ1.out, HZ2.out, HG6.out⟩
 ·have hM := HM1.out h0
  subst hM
  rw [eC_some h0]
  go_wp2_with (refine wpList_store_row rfl 32 (.tmp 4) (.tmp 13) rfl gr #[.bool false, .bool false, .int .u8 0, .int .u8 0, .int .u16 0, .int .u16 0, .int .u32 0, .int .u64 0, .slice none 0 0, .slice none 0 0, .int .i64 0] rfl rfl _ _ HR1.out (by kernel_rfl) rfl (by simp [Value.oneCell']) ?_)
  try simp only [Exit.inBlock, Exit.then]
  refine rb_ret rfl rfl rfl (HR1.out.set #[.bool false, .bool false, .int .u8 0, .int .u8 0, .int .u16 0, .int .u16 0, .int .u32 0, .int .u64 0, .slice none 0 0, .slice none 0 0, .int .i64 0]) ?_
  exact ⟨none, 0, 0, none, 0, 0, by rw [eC_some h0]; rfl, ZR.nil, ZR.nil, HG1.out.set HGr.out _⟩
def Md.sum (m : Md) : Nat := (m.segs.map fun s => s.pl.own.length).sum + (m.secs.map fun s => s.pl.own.length).sum
def Md.few (m : Md) : Nat := if 20 < m.segs.length then 0 else if 70 < m.secs.length then 0 else if 100000 < m.sum then 0 else 1
theorem sum_snoc {α : Type} (f : α → Nat) (l : List α) (k : Nat) (h : k < l.length) : ((l.take (k + 1)).map f).sum = ((l.take k).map f).sum + f l[k] := by
 rw [takeS l k h, List.map_append, List.sum_append]
 simp
theorem sum_le {α : Type} (f : α → Nat) (b : Nat) : ∀ (l : List α), (∀ a ∈ l, f a ≤ b) → (l.map f).sum ≤ l.length * b
 | [], _ => by simp
 | a :: r, h => by
  have := sum_le f b r fun x hx => h x (List.mem_cons_of_mem _ hx)
  have := h a (by simp)
  simp only [List.map_cons, List.sum_cons, List.length_cons, Nat.succ_mul]
  omega
theorem sum_take_le {α : Type} (f : α → Nat) (l : List α) (k : Nat) : ((l.take k).map f).sum ≤ (l.map f).sum := by
 have : (l.map f).sum = ((l.take k).map f).sum + ((l.drop k).map f).sum := by
  rw [← List.sum_append, ← List.map_append, List.take_append_drop]
 omega
set_option maxHeartbeats 1000000 in
theorem few_any (m : Md) (A1 A2 : Option Addr) (n1 c1 n2 c2 : Nat) (w : World) (g1 : ZR sgK w w.heap.size A1 n1 c1 m.segs) (g2 : ZR seK w w.heap.size A2 n2 c2 m.secs) (hsm0 : n1 ≤ 20 → n2 ≤ 70 → m.sum ≤ 4000000000000000000) :
  Calls Try.prog 5 #[.agg (mdC m (.slice A1 n1 c1) (.slice A2 n2 c2))] w fun e w' => e = .returned (.int .i64 (m.few : Nat)) ∧ Grow w w' := by
 obtain ⟨x0, x1, x2, x3, x4, x5, x6, x7, x10, hC⟩ : ∃ x0 x1 x2 x3 x4 x5 x6 x7 x10 : Value, mdC m (.slice A1 n1 c1) (.slice A2 n2 c2) = #[x0, x1, x2, x3, x4, x5, x6, x7, .slice A1 n1 c1, .slice A2 n2 c2, x10] := ⟨_, _, _, _, _, _, _, _, _, rfl⟩
 rw [hC]
 have hm1 := g1.max
 have hc1 := g1.cap
 have hm2 := g2.max
 have hc2 := g2.cap
 have HZ1 := hid g1
 have HZ2 := hid g2
 have HL1 := hid g1.len
 have HL2 := hid g2.len
 have E := hid (show m.few = if 20 < n1 then 0 else if 70 < n2 then 0 else if 100000 < m.sum then 0 else 1 by rw [g1.len, g2.len]; rfl)
 have ES : Hid (m.sum = (m.segs.map fun s => s.pl.own.length).sum + (m.secs.map fun s => s.pl.own.length).sum) := hid rfl
 generalize m.few = R at E ⊢
 generalize m.sum = S at E ES hsm0
 generalize m.segs = L1 at HZ1 HL1 ES
 generalize m.secs = L2 at HZ2 HL2 ES
 have HA : Hid (∀ k, ((L1.take k).map fun s => s.pl.own.length).sum ≤ S) := hid fun k => by
  have := sum_take_le (fun s : Sg => s.pl.own.length) L1 k
  have := ES.out
  omega
 have HB : Hid (∀ k, (L1.map fun s => s.pl.own.length).sum + ((L2.take k).map fun s => s.pl.own.length).sum ≤ S) := hid fun k => by
  have := sum_take_le (fun s : Se => s.pl.own.length) L2 k
  have := ES.out
  omega
 clear hC g1 g2
 unfold maxLen at hm1 hm2
 by_cases h1 : 20 < n1
 ·have E2 := hid (show R = 0 by rw [E.out, if_pos h1])
  go_enter Try.func5, Try.ntmps5
  go_wp2
  go_ret
  exact ⟨by rw [E2.out]; rfl, Grow.of_alloc _ _⟩
 rw [if_neg h1] at E
 have d1 : decide (20 < n1) = false := decide_eq_false h1
 have d1' : decide ((20 : Int) < (n1 : Int)) = false := decide_eq_false (by omega)
 by_cases h2 : 70 < n2
 ·have E2 := hid (show R = 0 by rw [E.out, if_pos h2])
  clear h1
  go_enter Try.func5, Try.ntmps5
  go_wp2
  go_ret
  exact ⟨by rw [E2.out]; rfl, Grow.of_alloc _ _⟩
 rw [if_neg h2] at E
 have d2 : decide (70 < n2) = false := decide_eq_false h2
 have d2' : decide ((70 : Int) < (n2 : Int)) = false := decide_eq_false (by omega)
 have HH : Hid (n1 ≤ 20 ∧ n2 ≤ 70) := hid ⟨by omega, by omega⟩
 have hsm := hsm0 (by omega) (by omega)
 clear h1 h2 hsm0
 go_enter Try.func5, Try.ntmps5
 go_wp2_with fail
 clear d1 d1' d2 d2'
 generalize hW : World.alloc _ _ = W0
 obtain ⟨b1, hg0⟩ := blk1 hW
 clear hW
 have HB1 := hid b1
 have HG0 := hid hg0
 have y8 := b1.at 8
 clear b1 hg0
 go_loop [3, 4] (fun x i => ∃ (k : Nat) (t : Nat), k ≤ n1 ∧ i = .int .i64 k ∧ x = .int .i64 (t : Nat) ∧ Hid (t = ((L1.take k).map fun s => s.pl.own.length).sum)) (fun _ i => n1 - (intOf i).toNat)
 case atStart => exact ⟨0, 0, by omega, rfl, rfl, hid (by simp)⟩
 case round =>
  obtain ⟨k, t, hk, rfl, rfl, HT⟩ := hrel
  by_cases hlt : k < n1
  ·have hkl : k < L1.length := by rw [← HL1.out]; exact hlt
   obtain ⟨b, off, rfl, hb⟩ := HZ1.out.pos (by omega)
   obtain ⟨Ak, nk, ck, -, hcell, gk⟩ := HZ1.out.at hkl
   have t9 : W0.cell? ⟨b, off + k * 10 + 9, none⟩ = some (.slice Ak nk ck) := (Below.cell HG0.out hb).trans (hcell 9 _ rfl)
   have HS := hid (sum_snoc (fun s : Sg => s.pl.own.length) L1 k hkl)
   have hnk : L1[k].pl.own.length = nk := gk.len.symm
   have hle := HA.out (k + 1)
   rw [HS.out, ← HT.out] at hle
   simp only [hnk] at HS hle
   rw [← HT.out] at HS
   clear hcell gk hb hnk
   have z : IntKind.i64.wrap ((t : Int) + (nk : Int)) = ((t + nk : Nat) : Int) := by rw [IntKind.wrap_i64]; omega
   go_wp2
   go_round
   case rel => exact ⟨k + 1, t + nk, by omega, by go_num, by first | rfl | simp, hid HS.out.symm⟩
   case measure => simp [intOf]; omega
  ·obtain rfl : n1 = k := by omega
   have HT1 : Hid (t = (L1.map fun s => s.pl.own.length).sum) := by
    have : L1.take n1 = L1 := by rw [List.take_of_length_le (by have := HL1.out; omega)]
    have h := HT.out
    rw [this] at h
    exact h
   have y9 := HB1.out.at 9
   clear HT
   go_wp2_with fail
   clear y8
   go_loop [3, 5] (fun x i => ∃ (k : Nat) (t' : Nat), k ≤ n2 ∧ i = .int .i64 k ∧ x = .int .i64 (t' : Nat) ∧ Hid (t' = t + ((L2.take k).map fun s => s.pl.own.length).sum)) (fun _ i => n2 - (intOf i).toNat)
   case atStart => exact ⟨0, t, by omega, rfl, rfl, hid (by simp)⟩
   case round =>
    obtain ⟨k, t', hk, rfl, rfl, HT⟩ := hrel
    by_cases hlt : k < n2
    ·have hkl : k < L2.length := by rw [← HL2.out]; exact hlt
     obtain ⟨b, off, rfl, hb⟩ := HZ2.out.pos (by omega)
     obtain ⟨Ak, nk, ck, -, hcell, gk⟩ := HZ2.out.at hkl
     have t9 : W0.cell? ⟨b, off + k * 13 + 12, none⟩ = some (.slice Ak nk ck) := (Below.cell HG0.out hb).trans (hcell 12 _ rfl)
     have HS := hid (sum_snoc (fun s : Se => s.pl.own.length) L2 k hkl)
     have hnk : L2[k].pl.own.length = nk := gk.len.symm
     have hle := HB.out (k + 1)
     rw [HS.out, ← HT1.out, ← Nat.add_assoc, ← HT.out] at hle
     simp only [hnk] at HS hle
     have HS2 : Hid (t' + nk = t + ((L2.take (k + 1)).map fun s => s.pl.own.length).sum) := hid (by rw [HS.out, ← Nat.add_assoc, ← HT.out])
     clear hcell gk hb hnk HS
     have z : IntKind.i64.wrap ((t' : Int) + (nk : Int)) = ((t' + nk : Nat) : Int) := by rw [IntKind.wrap_i64]; omega
     go_wp2
     go_round
     case rel => exact ⟨k + 1, t' + nk, by omega, by go_num, by first | rfl | simp, HS2⟩
     case measure => simp [intOf]; omega
    ·obtain rfl : n2 = k := by omega
     have HS : Hid (t' = S) := by
      have : L2.take n2 = L2 := by rw [List.take_of_length_le (by have := HL2.out; omega)]
      have h := HT.out
      rw [this, HT1.out, ← ES.out] at h
      exact h
     by_cases hb : 100000 < t'
     ·have E2 := hid (show R = 0 by rw [E.out, ← HS.out, if_pos hb])
      have d : decide (100000 < t') = true := decide_eq_true hb
      have d' : decide ((100000 : Int) < (t' : Int)) = true := decide_eq_true (by omega)
      clear hb
      go_wp2
      go_ret
      exact ⟨by rw [E2.out]; rfl, HG0.out⟩
     ·have E2 := hid (show R = 1 by rw [E.out, ← HS.out, if_neg hb])
      have d : decide (100000 < t') = false := decide_eq_false hb
      have d' : decide ((100000 : Int) < (t' : Int)) = false := decide_eq_false (by omega)
      clear hb
      go_wp2
      go_ret
      exact ⟨by rw [E2.out]; rfl, HG0.out⟩
end Go.Proofs.Ytfpihkbpelbcbaa
