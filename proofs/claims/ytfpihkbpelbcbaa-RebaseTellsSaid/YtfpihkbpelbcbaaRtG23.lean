/-
  Several texts in one: The contract of the document's own Rebase.
-/
import Derived.Test.YtfpihkbpelbcbaaRtG17
import Derived.Test.YtfpihkbpelbcbaaRtG18
import Derived.Test.YtfpihkbpelbcbaaRtG19
import Derived.Test.YtfpihkbpelbcbaaRtG22
import Derived.Test.YtfpihkbpelbcbaaRtG14
import Derived.Test.YtfpihkbpelbcbaaRtG15
import Derived.Test.YtfpihkbpelbcbaaRtG20
namespace Go.Proofs.Ytfpihkbpelbcbaa
open Go.Lib (hid)
open Go.RowKit
set_option maxRecDepth 100000
set_option linter.unusedVariables false
theorem rr_ret {K : Ending → World → Prop} {W : World} {tmps : Array Value} {g : Nat} {ev : Value} {cs : Array Value} (ht : tmps.getD 4 undef = .pointer (some ⟨g, 0, none⟩)) (he : tmps.getD 5 undef = ev) (hz : cs.size = 11)
  (hx : Blk W g 32 cs) (hk : K (.returned (.tuple #[.agg cs, ev])) W) : bodyPost Try.prog Try.f8 K .ret ⟨tmps, []⟩ W := by
 refine bodyPost_ret (v := .tuple #[.agg cs, ev]) ?_ rfl hk
 rw [results_cell_tmp rfl, ht, he]
 simp [asAddr, Result.andThen, hx.var _ _ Try.underlying32 rfl (by rw [hz]; kernel_rfl)]
set_option maxHeartbeats 16000000 in
theorem rRebase_any (m : Md) (ok : m.Ok) (hck : m.chk = 0) (hsm : m.Small) (A1 : Option Addr) (n1 c1 : Nat) (A2 : Option Addr) (n2 c2 : Nat) (d : Nat) (w : World) (g1 : ZR sgK w w.heap.size A1 n1 c1 m.segs) (g2 : ZR seK w w.heap.size A2 n2 c2 m.secs) (hd : d < 18446744073709551616) :
  Calls Try.prog 8 #[.agg (mdC m (.slice A1 n1 c1) (.slice A2 n2 c2)), .int .u64 (d : Int)] w fun e w' => ∃ A3 n3 c3 A4 n4 c4, e = .returned (.tuple #[.agg (mdC (m.rbM d) (.slice A3 n3 c3) (.slice A4 n4 c4)), .int .i64 (m.rbC d : Nat)]) ∧ ZR sgK w' w'.heap.size A3 n3 c3 (m.rbM d).segs ∧ ZR seK w' w'.heap.size A4 n4 c4 (m.rbM d).secs ∧ Grow w w' := by
 obtain ⟨hf1, hf2⟩ := chk_small hck
 have hn1 : n1 ≤ 65536 := by have := g1.len; omega
 have hn2 : n2 ≤ 65536 := by have := g2.len; omega
 have HS := hid g1
 have HL := hid g1.len
 have HWr := hid (fun W (hW : Grow w W) => rWraps_any m ok A1 n1 c1 A2 n2 c2 d W (g1.grow hW) (g2.grow hW) hd)
 have HMv := hid (fun W (hW : Grow w W) => rMoved_any m ok A1 A2 n1 c1 n2 c2 d w.heap.size W (g1.belowAt hW (Nat.le_refl _)) (g2.belowAt hW (Nat.le_refl _)) hW.size hn1 hn2 hd)
 have HWd : Hid (∀ W, Calls Try.prog 22 #[.agg #[.bool m.wide, .bool m.big]] W fun e w' => e = .returned (.int .i64 ((wdN m.wide : Nat) : Int)) ∧ Grow W w') := hid (fun W => dWord_any m.wide m.big W)
 have HRt := hid (fun W (hW : Grow w W) => rRels_any m ok hsm A1 n1 c1 A2 n2 c2 true W (g1.grow hW))
 have HRf := hid (fun W (hW : Grow w W) => rRels_any m ok hsm A1 n1 c1 A2 n2 c2 false W (g1.grow hW))
 have hwd8 := wdN_le m.wide
 have hwd0 := wdN_pos m.wide
 have HAm := hid (fun a W (hW : Grow w W) ha => rAmong_any m ok A1 A2 n1 c1 n2 c2 a (wdN m.wide) W (g1.grow hW) ha (by omega))
 have HIs := hid (fun r W => rRel_any r m A1 A2 n1 c1 n2 c2 W)
 have HDy := hid (fun W (hW : Grow w W) => rDynN_any m A1 A2 n1 c1 n2 c2 W (g1.grow hW))
 have HEn := hid (fun W (hW : Grow w W) => rEnts_any m ok hsm A1 n1 c1 A2 n2 c2 W (g1.grow hW))
 have HAd := hid (fun e he W (hW : Grow w W) => rAddr_any m ok A1 n1 c1 A2 n2 c2 e he W (g1.grow hW))
 have HGt := hid (fun A n c l B (p : Nat) W h => refGet_any A n c l B (p : Int) ((wdN m.wide : Nat) : Int) m.big W h (by omega))
 have HGv := hid (fun l p (h : p + wdN m.wide ≤ l.length) => gotV_in (l := l) (p := p) (wd := wdN m.wide) (big := m.big) (wdN_wid m.wide) h)
 -- the steps
 obtain ⟨N, hN⟩ : ∃ f : Nat → Md, f = fun k => m.mid d (m.relTo d k) := ⟨_, rfl⟩
 obtain ⟨E, hE⟩ : ∃ f : Nat → Md, f = fun k => m.mid d (m.entTo d k) := ⟨_, rfl⟩
 have HStR' : Hid (∀ k (hk : k < m.allRels.length), (isRel m.mach m.allRels[k].ty = false → m.mid d (m.relTo d (k + 1)) = m.mid d (m.relTo d k)) ∧ (m.among m.allRels[k].off (wdN m.wide) = none → m.mid d (m.relTo d (k + 1)) = m.mid d (m.relTo d k)) ∧
   ∀ i p, isRel m.mach m.allRels[k].ty = true → m.among m.allRels[k].off (wdN m.wide) = some (i, p) → ∃ hi : i < (m.mid d (m.relTo d k)).segs.length, p + wdN m.wide ≤ (m.mid d (m.relTo d k)).segs[i].pl.own.length ∧ (m.mid d (m.relTo d k)).segs[i].pl.own.length ≤ 100000 ∧ ∀ A c A5 c5 B W, GM sgK W B 48 A n1 c (m.mid d (m.relTo d k)).segs → B ≤ W.heap.size →
    Calls Try.prog 27 #[.agg (mdC (m.moved d) (.slice A n1 c) (.slice A5 n2 c5)), .int .i64 (i : Int), .int .i64 (p : Int), .int .u64 (((getB (((m.mid d (m.relTo d k)).segs[i].pl.own.drop p).take (wdN m.wide)) m.big + d) % 18446744073709551616 : Nat) : Int)] W fun e w' => ∃ A4 c4, e = .returned (.agg (mdC (m.moved d) (.slice A4 n1 c4) (.slice A5 n2 c5))) ∧ GM sgK w' B 48 A4 n1 c4 (m.mid d (m.relTo d (k + 1))).segs ∧ Grow W w') := hid fun k hk => by
  have hF := Fit.relTo m d k (by omega)
  rw [m.relTo_succ d k hk]
  exact ⟨fun h => by rw [relStep_no h], fun h => by rw [rr_none h], fun i p h1 h2 => rr_rel m hsm d n1 n2 hn1 _ hF _ h1 i p h2⟩
 have HStR : Hid (∀ k (hk : k < m.allRels.length), (isRel m.mach m.allRels[k].ty = false → N (k + 1) = N k) ∧ (m.among m.allRels[k].off (wdN m.wide) = none → N (k + 1) = N k) ∧
   ∀ i p, isRel m.mach m.allRels[k].ty = true → m.among m.allRels[k].off (wdN m.wide) = some (i, p) → ∃ hi : i < (N k).segs.length, p + wdN m.wide ≤ (N k).segs[i].pl.own.length ∧ (N k).segs[i].pl.own.length ≤ 100000 ∧ ∀ A c A5 c5 B W, GM sgK W B 48 A n1 c (N k).segs → B ≤ W.heap.size →
    Calls Try.prog 27 #[.agg (mdC (m.moved d) (.slice A n1 c) (.slice A5 n2 c5)), .int .i64 (i : Int), .int .i64 (p : Int), .int .u64 (((getB (((N k).segs[i].pl.own.drop p).take (wdN m.wide)) m.big + d) % 18446744073709551616 : Nat) : Int)] W fun e w' => ∃ A4 c4, e = .returned (.agg (mdC (m.moved d) (.slice A4 n1 c4) (.slice A5 n2 c5))) ∧ GM sgK w' B 48 A4 n1 c4 (N (k + 1)).segs ∧ Grow W w') := by
  subst hN hE
  exact HStR'
 have HStE' : Hid (∀ k (hk : k < m.ents.length), m.dynP.inn ≠ -1 → (m.isAd m.ents[k] = false → m.mid d (m.entTo d (k + 1)) = m.mid d (m.entTo d k)) ∧ (m.isAd m.ents[k] = true → ∀ A c A5 c5 B W, GM sgK W B 48 A n1 c (m.mid d (m.entTo d k)).segs → B ≤ W.heap.size →
    Calls Try.prog 27 #[.agg (mdC (m.moved d) (.slice A n1 c) (.slice A5 n2 c5)), .int .i64 m.dynP.inn, .int .i64 ((m.dynP.off + wdN m.wide * (2 * k + 1) : Nat) : Int), .int .u64 (((m.ents[k].val + d) % 18446744073709551616 : Nat) : Int)] W fun e w' => ∃ A4 c4, e = .returned (.agg (mdC (m.moved d) (.slice A4 n1 c4) (.slice A5 n2 c5))) ∧ GM sgK w' B 48 A4 n1 c4 (m.mid d (m.entTo d (k + 1))).segs ∧ Grow W w')) := hid fun k hk hin => by
  have hF := Fit.entTo (d := d) hck hin k (by omega)
  rw [entTo_succ m d k hk]
  exact ⟨fun h => by rw [entStep_no h], fun h A c A5 c5 B W hg hB => rr_ent m hsm hck hin d n1 n2 hn1 _ hF k hk _ h A c A5 c5 B W hg hB⟩
 have HStE : Hid (∀ k (hk : k < m.ents.length), m.dynP.inn ≠ -1 → (m.isAd m.ents[k] = false → E (k + 1) = E k) ∧ (m.isAd m.ents[k] = true → ∀ A c A5 c5 B W, GM sgK W B 48 A n1 c (E k).segs → B ≤ W.heap.size →
    Calls Try.prog 27 #[.agg (mdC (m.moved d) (.slice A n1 c) (.slice A5 n2 c5)), .int .i64 m.dynP.inn, .int .i64 ((m.dynP.off + wdN m.wide * (2 * k + 1) : Nat) : Int), .int .u64 (((m.ents[k].val + d) % 18446744073709551616 : Nat) : Int)] W fun e w' => ∃ A4 c4, e = .returned (.agg (mdC (m.moved d) (.slice A4 n1 c4) (.slice A5 n2 c5))) ∧ GM sgK w' B 48 A4 n1 c4 (E (k + 1)).segs ∧ Grow W w')) := by
  subst hN hE
  exact HStE'
 have HSt0' : Hid ((m.moved d).segs = (m.mid d (m.relTo d 0)).segs) := hid (by
  unfold Md.mid
  rw [← withB_moved, m.relTo_zero, withB_own0])
 have HSt0 : Hid ((m.moved d).segs = (N 0).segs) := by
  subst hN hE
  exact HSt0'
 have HStL' : Hid (m.mid d (m.relTo d m.allRels.length) = m.mid d (m.entTo d 0)) := hid rfl
 have HStL : Hid (N m.allRels.length = E 0) := by
  subst hN hE
  exact HStL'
 have HFin' : Hid (m.rbC d = 0 → ((m.dynP.inn = -1 → m.rbM d = m.mid d (m.entTo d 0)) ∧ (m.dynP.inn ≠ -1 → m.rbM d = m.mid d (m.entTo d m.ents.length)))) := hid fun h => by
  rw [rbM_zero h]
  unfold Md.rebase Md.mid
  rw [withB_moved]
  unfold Md.words
  exact ⟨fun h => by rw [if_pos h]; rfl, fun h => by rw [if_neg h]⟩
 have HFin : Hid (m.rbC d = 0 → ((m.dynP.inn = -1 → m.rbM d = E 0) ∧ (m.dynP.inn ≠ -1 → m.rbM d = E m.ents.length))) := by
  subst hN hE
  exact HFin'
 have HBad : Hid (m.rbC d ≠ 0 → m.rbM d = md0) := hid rbM_bad
 have HmC : Hid (∀ k s1 s2, mdC (E k) s1 s2 = mdC (m.moved d) s1 s2) := hid fun _ _ _ => by rw [hE]; rfl
 have HmS : Hid (∀ k, (E k).secs = (m.moved d).secs) := hid fun _ => by rw [hE]; rfl
 have HC : Hid (m.rbC d = if m.typ = 3 then (if m.alBad d then 6 else if m.wrBad d then 12 else 0) else 11) := hid rfl
 have HAb : Hid (m.alBad d = m.segs.any fun s => !decide (d % max s.align 1 = 0)) := hid rfl
 have HRo := hid (allRels_ok m)
 have HEo := hid (ents_ok m)
 have HAl : Hid (m.relsOf true ++ m.relsOf false = m.allRels) := hid rfl
 have hl1 := relsOf_len m hsm true
 have hl2 := relsOf_len m hsm false
 have hle := ents_len m hck hsm
 have HDP : Hid (m.dynP = if m.hasDyn then m.dynS.pl else plX) := hid rfl
 have HDN : Hid (dynN m = if m.hasDyn then (m.dynI : Int) else -1) := hid rfl
 have HHd : Hid (m.hasDyn = decide (m.dynI < m.segs.length)) := hid rfl
 have HDs : Hid (∀ h : m.dynI < m.segs.length, m.dynS = m.segs[m.dynI]) := hid fun h => getD_at h
 have HIn : Hid (m.dynP.inn = -1 ∨ 0 ≤ m.dynP.inn) := hid (by
  by_cases h : m.dynP.inn = -1
  ·exact .inl h
  ·obtain ⟨I, hI⟩ := dynP_nat hck h
   exact .inr (by omega))
 have HRm : Hid (∀ (h : m.dynP.inn ≠ -1) k, k < m.ents.length → m.dynP.off + wdN m.wide * (2 * k + 1) + wdN m.wide ≤ 100000) := hid fun h k hk => by
  obtain ⟨hi, -, -, hp⟩ := ent_room hck h hk
  exact Nat.le_trans hp (hsm _ (List.getElem_mem hi))
 have hoff : m.dynP.off < 18446744073709551616 := by
  unfold Md.dynP
  cases h : m.hasDyn with
  | false => exact (by decide : (0 : Nat) < 18446744073709551616)
  | true =>
   have hl : m.dynI < m.segs.length := by unfold Md.hasDyn at h; simpa using h
   simp only [if_true]
   unfold Md.dynS
   rw [getD_at hl]
   exact (ok.segs _ (List.getElem_mem hl)).pl.off
 have hcc := g1.cap
 have hcm := g1.max
 unfold maxLen at hcm
 have hAlg := hid (fun k (hk : k < m.segs.length) => (ok.segs _ (List.getElem_mem hk)).align)
 have hmd : ∀ s1 s2, mdC (m.moved d) s1 s2 = #[.bool m.wide, .bool m.big, .int .u8 (m.osabi : Nat), .int .u8 (m.abi : Nat), .int .u16 (m.typ : Nat), .int .u16 (m.mach : Nat), .int .u32 (m.flags : Nat), .int .u64 (mvN d m.entry : Nat), s1, s2, .int .i64 m.str] := fun _ _ => rfl
 have hmm : ∀ s1 s2, mdC m s1 s2 = #[.bool m.wide, .bool m.big, .int .u8 (m.osabi : Nat), .int .u8 (m.abi : Nat), .int .u16 (m.typ : Nat), .int .u16 (m.mach : Nat), .int .u32 (m.flags : Nat), .int .u64 (m.entry : Nat), s1, s2, .int .i64 m.str] := fun _ _ => rfl
 have HtyB := hid ok.typ
 simp only [hmd] at HMv HStR HStE HmC
 simp only [hmm] at HWr HMv HRt HRf HAm HIs HDy HEn HAd ⊢
 clear hN hE HStR' HStE' HSt0' HStL' HFin'
 clear g1 g2 ok hck hsm hf1 hf2 hmd hmm
 generalize hRB : m.rbM d = RB_ at *
 clear hRB
 generalize m.rbC d = rc at *
 generalize dynN m = DN at *
 generalize m.wrBad d = wb at *
 generalize m.alBad d = ab at *
 generalize m.among = am at *
 generalize isRel m.mach = ir at *
 generalize m.isAd = ia at *
 generalize m.hasDyn = hdy at *
 generalize m.dynI = DI at *
 generalize m.dynP = DP at *
 generalize m.allRels = AR at *
 generalize m.relsOf true = R1 at *
 generalize m.relsOf false = R2 at *
 generalize m.ents = EL at *
 generalize mvN d m.entry = en2 at *
 generalize wdN m.wide = wd at *
 generalize (m.moved d).segs = LM at *
 generalize (m.moved d).secs = L2 at *
 generalize m.dynS = ds at *
 generalize m.segs = l at *
 generalize m.wide = f0 at *
 generalize m.big = f1 at *
 generalize m.osabi = f2 at *
 generalize m.abi = f3 at *
 generalize m.typ = f4 at *
 generalize m.mach = f5 at *
 generalize m.flags = f6 at *
 generalize m.entry = en at *
 generalize m.str = f10 at *
 have HBadR : Hid (∀ W gr, rc ≠ 0 → Blk W gr 32 #[.bool false, .bool false, .int .u8 0, .int .u8 0, .int .u16 0, .int .u16 0, .int .u32 0, .int .u64 0, .slice none 0 0, .slice none 0 0, .int .i64 0] → Grow w W → ∃ A3 n3 c3 A4 n4 c4, Ending.returned (.tuple #[.agg #[.bool false, .bool false, .int .u8 0, .int .u8 0, .int .u16 0, .int .u16 0, .int .u32 0, .int .u64 0, .slice none 0 0, .slice none 0 0, .int .i64 0], .int .i64 (rc : Nat)]) = .returned (.tuple #[.agg (mdC RB_ (.slice A3 n3 c3) (.slice A4 n4 c4)), .int .i64 (rc : Nat)]) ∧ ZR sgK W W.heap.size A3 n3 c3 RB_.segs ∧ ZR seK W W.heap.size A4 n4 c4 RB_.secs ∧ Grow w W) := hid fun W gr h _ hg => by
  rw [HBad.out h]
  exact ⟨none, 0, 0, none, 0, 0, rfl, ZR.nil, ZR.nil, hg⟩
 by_cases h3 : f4 = 3
 ·have e3 : ((f4 : Int) != 3) = false := by simp; omega
  have HC3 : Hid (rc = if ab then 6 else if wb then 12 else 0) := hid (by rw [HC.out, if_pos h3])
  clear HC HtyB h3
  go_enter Try.func8, Try.ntmps8
  go_wp2_with fail
  generalize hW : World.alloc _ _ = W0
  obtain ⟨b1, b2, hg0⟩ := blk2 hW
  clear hW
  obtain ⟨gm, hgm⟩ : ∃ g, g = w.heap.size := ⟨_, rfl⟩
  have HNe : Hid (gm ≠ gm + 1 ∧ w.heap.size ≤ gm + 1) := hid (by omega)
  rw [← hgm] at b1 b2 ⊢
  have HB0 := hid b1
  have HR0 := hid b2
  have HG0 := hid hg0
  clear b1 b2 hg0 hgm
  generalize gm + 1 = gr at *
  go_loopw [6] (fun i wr => ∃ k : Nat, k ≤ n1 ∧ i = .int .i64 k ∧ Hid (∀ s ∈ l.take k, decide (d % max s.align 1 = 0) = true) ∧ Grow W0 wr) (fun i _ => n1 - (intOf i).toNat)
  case atStart => exact ⟨0, Nat.zero_le _, rfl, hid fun s h => absurd h (by simp), Grow.refl _⟩
  case round =>
   obtain ⟨k, hk, rfl, hno, hg⟩ := hrel
   have HNo := hid hno.out
   have HG := hid hg
   have HBw := hid (HB0.out.grow hg)
   have HRw := hid (HR0.out.grow hg)
   have HGw : Hid (Grow w wr) := hid (HG0.out.trans hg)
   have y8 : wr.cell? ⟨gm, 8, none⟩ = some (.slice A1 n1 c1) := HBw.out.at 8
   clear hno hg
   by_cases hlt : k < n1
   ·have hkl : k < l.length := by rw [← HL.out]; exact hlt
    obtain ⟨b, off, hAA, hb⟩ := HS.out.pos (by omega)
    subst hAA
    obtain ⟨Ak, nk, ck, -, p, gk⟩ := HS.out.at hkl
    have p5 : wr.cell? ⟨b, off + k * 10 + 5, none⟩ = some (.int .u64 (l[k].align : Nat)) := (Below.cell HGw.out hb).trans (p 5 _ rfl)
    have hal := hAlg.out k hkl
    have HMem := hid (List.getElem_mem hkl)
    have HT' := hid (takeS l k hkl)
    clear p gk hb
    generalize l[k] = s at *
    have HYes : Hid (decide (d % max s.align 1 = 0) = false → ab = true) := hid fun h => by
     rw [HAb.out, List.any_eq_true]
     exact ⟨s, HMem.out, by rw [h]; rfl⟩
    have HNok : Hid (decide (d % max s.align 1 = 0) = true → ∀ x ∈ l.take (k + 1), decide (d % max x.align 1 = 0) = true) := hid fun h a ha => by
     rw [HT'.out] at ha
     rcases List.mem_append.1 ha with h1 | h1
     ·exact HNo.out a h1
     ·obtain rfl : a = s := by simpa using h1
      exact h
    generalize s.align = al at *
    clear HMem HT' HNo hkl
    have w0 : (0 : Int) ≤ (k : Int) := by omega
    have w1 : (k : Int) < (n1 : Int) := by omega
    have zk : IntKind.i64.wrap ((k : Int) + 1) = (k : Int) + 1 := by rw [IntKind.wrap_i64]; omega
    by_cases h1 : 1 < al
    ·have e1 : decide ((1 : Int) < (al : Int)) = true := decide_eq_true (by omega)
     have e1' : decide (1 < al) = true := decide_eq_true h1
     have m1 : ¬ (al : Int) < 1 := by omega
     have z0 : ((al : Int) == 0) = false := by simp; omega
     have z1 : ¬ (al : Int) = -1 := by omega
     have z2 : ¬ al = 0 := by omega
     have z3 : ((d : Int)).tmod (al : Int) = ((d % al : Nat) : Int) := (Int.ofNat_tmod _ _).symm
     have hrl : d % al < al := Nat.mod_lt _ (by omega)
     have z4 : IntKind.u64.wrap ((d % al : Nat) : Int) = ((d % al : Nat) : Int) := by rw [IntKind.wrap_u64]; omega
     rw [show max al 1 = al by omega] at HYes HNok
     generalize d % al = r at *
     by_cases hr : r = 0
     ·subst hr
      have HNk := hid (HNok.out (by decide))
      clear HYes HNok
      go_wp2
      go_roundw
      case rel => exact ⟨k + 1, by omega, by go_num, hid HNk.out, HG.out⟩
      case measure => simp [intOf]; omega
     ·have er : ((r : Int) != 0) = true := by simp; omega
      have hab := HYes.out (decide_eq_false hr)
      have hR : rc = 6 := by rw [HC3.out, hab]; rfl
      subst hR
      have HBR := hid (fun W gr => HBadR.out W gr (by decide))
      clear HBad HBadR HStR HStE HFin HmC HmS HMv HWr HRt HRf HAm HIs HDy HEn HAd HGt HGv HS HSt0 HStL HRo HEo HAl HDP HDN HHd HDs HIn HRm hAlg HAb HYes HNok hab hr
      go_wp2_with (first | (refine wpList_store_row rfl 32 (.tmp 4) (.tmp 52) rfl gr _ rfl rfl _ _ HRw.out (by kernel_rfl) rfl (by simp [Value.oneCell']) ?_) | fail)
      refine rr_ret rfl rfl rfl (HRw.out.set _) ?_
      exact HBR.out _ _ (HRw.out.set _) (HGw.out.set HNe.out.2 _)
    ·have e1 : decide ((1 : Int) < (al : Int)) = false := decide_eq_false (by omega)
     have e1' : decide (1 < al) = false := decide_eq_false h1
     have HNk := hid (HNok.out (by rw [show max al 1 = 1 by omega, Nat.mod_one]; rfl))
     clear HYes HNok h1
     go_wp2
     go_roundw
     case rel => exact ⟨k + 1, by omega, by go_num, hid HNk.out, HG.out⟩
     case measure => simp [intOf]; omega
   ·have e : n1 = k := by omega
    have hab : ab = false := by
     rw [HAb.out, List.any_eq_false]
     intro s hs
     have h := HNo.out
     rw [List.take_of_length_le (by have := HL.out; omega)] at h
     rw [h s hs]
     decide
    subst hab
    subst e
    have d1 : decide ((n1 : Int) < (n1 : Int)) = false := decide_eq_false (by omega)
    have HC4 : Hid (rc = if wb then 12 else 0) := HC3.out ▸ hid rfl
    clear HC3 HAb hAlg HNo HB0 HR0 HG0 HG
    obtain ⟨v0, v1, v2, v3, v4, v5, v6, v7, v8, v9, v10⟩ := HBw.out.c11
    clear y8
    go_wp2_with fail
    clear v0 v1 v2 v3 v4 v5 v6 v7 v8 v9 v10
    refine (HWr.out wr HGw.out).mono ?_
    rintro e w1 ⟨rfl, hg⟩
    have HB1 := hid (HBw.out.grow hg)
    have HR1 := hid (HRw.out.grow hg)
    have HG1 : Hid (Grow w w1) := hid (HGw.out.trans hg)
    clear hg HBw HRw HGw HWr
    cases wb with
    | true =>
     have hR : rc = 12 := by rw [HC4.out]; rfl
     subst hR
     have HBR := hid (fun W gr => HBadR.out W gr (by decide))
     clear HBad HBadR HStR HStE HFin HmC HmS HMv HRt HRf HAm HIs HDy HEn HAd HGt HGv HS HSt0 HStL HRo HEo HAl HDP HDN HHd HDs HIn HRm
     go_wp2_with (first | (refine wpList_store_row rfl 32 (.tmp 4) (.tmp 57) rfl gr _ rfl rfl _ _ HR1.out (by kernel_rfl) rfl (by simp [Value.oneCell']) ?_) | fail)
     refine rr_ret rfl rfl rfl (HR1.out.set _) ?_
     exact HBR.out _ _ (HR1.out.set _) (HG1.out.set HNe.out.2 _)
    | false =>
     have hR : rc = 0 := by rw [HC4.out]; rfl
     subst hR
     clear HBadR HBad HC4
     obtain ⟨v0, v1, v2, v3, v4, v5, v6, v7, v8, v9, v10⟩ := HB1.out.c11
     go_wp2_with fail
     clear v0 v1 v2 v3 v4 v5 v6 v7 v8 v9 v10
     refine (HMv.out w1 HG1.out).mono ?_
     rintro e w2 ⟨A4, c4, A5, c5, rfl, hgm, hzr, hg⟩
     have HB2 := hid (HB1.out.grow hg)
     have HR2 := hid (HR1.out.grow hg)
     have HG2 : Hid (Grow w w2) := hid (HG1.out.trans hg)
     have HGM := hid hgm
     have HZR := hid hzr
     have HSz : Hid (w.heap.size ≤ w2.heap.size ∧ w.heap.size ≤ w2.heap.size ∧ gm < w2.heap.size ∧ gr < w2.heap.size) := hid ⟨HG2.out.size, HG2.out.size, HB2.out.lt, HR2.out.lt⟩
     have f0' : ∀ o, (w2.alloc o).cell? ⟨gm, 0, none⟩ = some (.bool f0) := fun o => (HB2.out.alloc o).at 0
     have f1' : ∀ o, (w2.alloc o).cell? ⟨gm, 1, none⟩ = some (.bool f1) := fun o => (HB2.out.alloc o).at 1
     clear hg hgm hzr HB1 HR1 HG1 HMv
     go_wp2_with fail
     generalize hW : World.alloc _ _ = W3
     obtain ⟨b8, hg3⟩ := blk1 hW
     clear hW
     have HJ : Hid (RJ w W3 gm gr w2.heap.size #[.bool f0, .bool f1, .int .u8 (f2 : Nat), .int .u8 (f3 : Nat), .int .u16 (f4 : Nat), .int .u16 (f5 : Nat), .int .u32 (f6 : Nat), .int .u64 (en : Nat), .slice A1 n1 c1, .slice A2 n2 c2, .int .i64 f10] #[.bool false, .bool false, .int .u8 0, .int .u8 0, .int .u16 0, .int .u16 0, .int .u32 0, .int .u64 0, .slice none 0 0, .slice none 0 0, .int .i64 0] #[.bool f0, .bool f1, .int .u8 (f2 : Nat), .int .u8 (f3 : Nat), .int .u16 (f4 : Nat), .int .u16 (f5 : Nat), .int .u32 (f6 : Nat), .int .u64 (en2 : Nat), .slice A4 n1 c4, .slice A5 n2 c5, .int .i64 f10] A4 n1 c4 (N 0).segs A5 n2 c5 L2 w.heap.size) := hid ⟨HB2.out.grow hg3, HR2.out.grow hg3, b8, HSt0.out ▸ (HGM.out.keep hg3 HSz.out.1), HZR.out.keep hg3 HSz.out.1, HG2.out.trans hg3, HSz.out.1, HSz.out.2.1⟩
     have HGo : Hid (w2.heap.size ≠ gm ∧ w2.heap.size ≠ gr) := hid (by have := HSz.out; omega)
     clear b8 hg3 HB2 HR2 HG2 HGM HZR HSz f0' f1' HSt0
     generalize w2.heap.size = go at *
     obtain ⟨Bs, hBs⟩ : ∃ B, B = w.heap.size := ⟨_, rfl⟩
     rw [← hBs] at HJ
     have HBs : Hid (Bs ≤ gr ∧ w.heap.size ≤ gr) := hid (by have := HNe.out.2; omega)
     clear hBs
     have HEnd : Hid (∀ W A c k, RJ w W gm gr go #[.bool f0, .bool f1, .int .u8 (f2 : Nat), .int .u8 (f3 : Nat), .int .u16 (f4 : Nat), .int .u16 (f5 : Nat), .int .u32 (f6 : Nat), .int .u64 (en : Nat), .slice A1 n1 c1, .slice A2 n2 c2, .int .i64 f10] #[.bool false, .bool false, .int .u8 0, .int .u8 0, .int .u16 0, .int .u16 0, .int .u32 0, .int .u64 0, .slice none 0 0, .slice none 0 0, .int .i64 0] #[.bool f0, .bool f1, .int .u8 (f2 : Nat), .int .u8 (f3 : Nat), .int .u16 (f4 : Nat), .int .u16 (f5 : Nat), .int .u32 (f6 : Nat), .int .u64 (en2 : Nat), .slice A n1 c, .slice A5 n2 c5, .int .i64 f10] A n1 c (E k).segs A5 n2 c5 L2 Bs → RB_ = E k → ∃ A3 n3 c3 A4 n4 c4, Ending.returned (.tuple #[.agg #[.bool f0, .bool f1, .int .u8 (f2 : Nat), .int .u8 (f3 : Nat), .int .u16 (f4 : Nat), .int .u16 (f5 : Nat), .int .u32 (f6 : Nat), .int .u64 (en2 : Nat), .slice A n1 c, .slice A5 n2 c5, .int .i64 f10], .int .i64 0]) = .returned (.tuple #[.agg (mdC RB_ (.slice A3 n3 c3) (.slice A4 n4 c4)), .int .i64 ((0 : Nat) : Int)]) ∧ ZR sgK (W.setRow gr #[.bool f0, .bool f1, .int .u8 (f2 : Nat), .int .u8 (f3 : Nat), .int .u16 (f4 : Nat), .int .u16 (f5 : Nat), .int .u32 (f6 : Nat), .int .u64 (en2 : Nat), .slice A n1 c, .slice A5 n2 c5, .int .i64 f10]) (W.setRow gr #[.bool f0, .bool f1, .int .u8 (f2 : Nat), .int .u8 (f3 : Nat), .int .u16 (f4 : Nat), .int .u16 (f5 : Nat), .int .u32 (f6 : Nat), .int .u64 (en2 : Nat), .slice A n1 c, .slice A5 n2 c5, .int .i64 f10]).heap.size A3 n3 c3 RB_.segs ∧ ZR seK (W.setRow gr #[.bool f0, .bool f1, .int .u8 (f2 : Nat), .int .u8 (f3 : Nat), .int .u16 (f4 : Nat), .int .u16 (f5 : Nat), .int .u32 (f6 : Nat), .int .u64 (en2 : Nat), .slice A n1 c, .slice A5 n2 c5, .int .i64 f10]) (W.setRow gr #[.bool f0, .bool f1, .int .u8 (f2 : Nat), .int .u8 (f3 : Nat), .int .u16 (f4 : Nat), .int .u16 (f5 : Nat), .int .u32 (f6 : Nat), .int .u64 (en2 : Nat), .slice A n1 c, .slice A5 n2 c5, .int .i64 f10]).heap.size A4 n4 c4 RB_.secs ∧ Grow w (W.setRow gr #[.bool f0, .bool f1, .int .u8 (f2 : Nat), .int .u8 (f3 : Nat), .int .u16 (f4 : Nat), .int .u16 (f5 : Nat), .int .u32 (f6 : Nat), .int .u64 (en2 : Nat), .slice A n1 c, .slice A5 n2 c5, .int .i64 f10])) := hid fun W A c k h he => by
      have hsz : Bs ≤ (W.setRow gr #[.bool f0, .bool f1, .int .u8 (f2 : Nat), .int .u8 (f3 : Nat), .int .u16 (f4 : Nat), .int .u16 (f5 : Nat), .int .u32 (f6 : Nat), .int .u64 (en2 : Nat), .slice A n1 c, .slice A5 n2 c5, .int .i64 f10]).heap.size := by have := h.bs; simpa using this
      refine ⟨A, n1, c, A5, n2, c5, ?_, ?_, ?_, h.gw.set HBs.out.2 _⟩
      ·rw [he, HmC.out]
       rfl
      ·rw [he]
       exact (h.s.past h.r (by decide) (by decide) (RJ.gone gr _) HBs.out.1 h.bs).zr hsz
      ·rw [he, HmS.out]
       exact (h.t.past h.r (by decide) (by decide) (RJ.gone gr _) HBs.out.1 h.bs).zr hsz
     refine (HWd.out W3).mono ?_
     rintro e w3 ⟨rfl, hg⟩
     have HJ3 := hid (HJ.out.grow hg)
     clear hg HJ HWd
     go_wp2_with fail
     refine wp_region_leap (leap_kept (fun j => j < w3.drew.heap.size)) [(0, true), (2, true), (1, false), (3, false), (4, false), (5, true)] (by kernel_rfl) (by kernel_rfl) (by kernel_rfl) ?_
     have HJ4 := hid (HJ3.out.grow (Grow.of_drew _))
     clear HJ3
     generalize w3.drew = V0 at *
     have HBl := hid HJ4.out.b.lt
     have q1 : ∀ W, Kept (fun j => j < V0.heap.size) V0 W → _ := fun W hW => (HJ4.out.b.kept hW HBl.out).c11
     repeat (first | (refine chain_take rfl (by rfl) ?_ (fun W hG => ?_) ?_; rotate_left; (obtain ⟨v0, v1, v2, v3, v4, v5, v6, v7, v8, v9, v10⟩ := q1 W hG; go_simp; rfl); simp only [Act.put, List.setIfInBounds_toArray, List.set_cons_zero, List.set_cons_succ]) | (refine chain_skip rfl (by rfl) ?_; simp only [Act.put, List.setIfInBounds_toArray, List.set_cons_zero, List.set_cons_succ]))
     clear q1
     refine chain_only rfl (by rfl) (fun K hK => ?_)
     go_simp
     refine (HRt.out V0 HJ4.out.gw).mono ?_
     rintro e v1 ⟨Aa, na, ca, rfl, hza, hga⟩
     refine hK _ _ (Kept.of_grow hga) ?_
     clear hK K HRt
     refine chain_only rfl (by rfl) (fun K hK => ?_)
     go_simp
     refine (HRf.out v1 (HJ4.out.gw.trans hga)).mono ?_
     rintro e v2 ⟨Ab, nb, cb, rfl, hzb, hgb⟩
     refine hK _ _ (Kept.of_grow hgb) ?_
     clear hK K HRf
     have HZa := hid (hza.keep hgb)
     have HZb := hid hzb
     have HGab := hid (hga.trans hgb)
     have hna : na ≤ 100000 := by have := hza.2.1; rw [List.length_map] at this; omega
     have hnb : nb ≤ 100000 := by have := hzb.2.1; rw [List.length_map] at this; omega
     have HLn : Hid (na + nb = AR.length) := hid (by
      have h1 := hza.2.1
      have h2 := hzb.2.1
      rw [List.length_map] at h1 h2
      rw [← HAl.out, List.length_append, h1, h2])
     clear hza hzb hga hgb
     have HOne : Hid (∀ r ∈ R2.map Re.C, r.all (·.oneCell') = true) := hid fun r hr => by
      obtain ⟨x, -, rfl⟩ := List.mem_map.1 hr
      simp [Re.C, Value.oneCell']
     refine chain_only rfl (by rfl) (fun K hK => ?_)
     refine wp_appendZx _ (.tmp 66) (.tmp 68) 63 rfl V0.heap.size 68 (.agg #[.int .u64 0, .int .u32 0, .int .u32 0, .int .i64 0]) 4 24 Try.underlying63 (by kernel_rfl) rfl (by omega) Aa na ca (R1.map Re.C) rfl HZa.out _ Ab nb cb (R2.map Re.C) rfl HZb.out.zs HOne.out (by unfold maxLen; omega) (by omega) HGab.out.size ?_
     intro A7 c7 v3 hz7 hg7
     refine hK _ _ ⟨hg7.size, fun i hi hs => hg7.block i hi (fun e => by have := HZa.out.ge e.symm; omega)⟩ ?_
     clear hK K
     have hgr : Grow V0 v3 := Below.trans HGab.out ((Below.refl _ _).grown hg7 HGab.out.size fun q hq => HZa.out.ge hq)
     have HJ5 := hid (HJ4.out.grow hgr)
     rw [← List.map_append, HAl.out] at hz7
     have HR5 := hid hz7
     clear hg7 hgr hz7 HJ4 HZa HZb HGab HOne HBl HAl hl1 hl2
     obtain ⟨NN, hNN⟩ : ∃ N, N = na + nb := ⟨_, rfl⟩
     try rw [← hNN] at HR5 HLn ⊢
     have hnn : NN ≤ 200000 := by omega
     clear hNN hna hnb
     generalize V0.heap.size = BV at *
     repeat (refine chain_take rfl (by rfl) ?_ (fun W hG => ?_) ?_; rotate_left; (go_simp; rfl); simp only [Act.put, List.setIfInBounds_toArray, List.set_cons_zero, List.set_cons_succ])
     refine chain_done ?_
     go_wp2_with fail
     go_loopw [11] (fun i wr => ∃ (j : Nat) (A : Option Addr) (c : Nat), j ≤ NN ∧ i = .int .i64 j ∧ RJ w wr gm gr go #[.bool f0, .bool f1, .int .u8 (f2 : Nat), .int .u8 (f3 : Nat), .int .u16 (f4 : Nat), .int .u16 (f5 : Nat), .int .u32 (f6 : Nat), .int .u64 (en : Nat), .slice A1 n1 c1, .slice A2 n2 c2, .int .i64 f10] #[.bool false, .bool false, .int .u8 0, .int .u8 0, .int .u16 0, .int .u16 0, .int .u32 0, .int .u64 0, .slice none 0 0, .slice none 0 0, .int .i64 0] #[.bool f0, .bool f1, .int .u8 (f2 : Nat), .int .u8 (f3 : Nat), .int .u16 (f4 : Nat), .int .u16 (f5 : Nat), .int .u32 (f6 : Nat), .int .u64 (en2 : Nat), .slice A n1 c, .slice A5 n2 c5, .int .i64 f10] A n1 c (N j).segs A5 n2 c5 L2 Bs ∧ ZO wr BV 68 4 A7 NN c7 (AR.map Re.C)) (fun i _ => NN - (intOf i).toNat)
     case atStart => exact ⟨0, A4, c4, Nat.zero_le _, rfl, HJ5.out, HR5.out⟩
     case round =>
      obtain ⟨j, A, c, hj, rfl, hjj, hzz⟩ := hrel
      have HJ6 := hid hjj
      have HR6 := hid hzz
      clear hjj hzz HJ5 HR5
      by_cases hlt : j < NN
      ·have hjl : j < AR.length := by rw [← HLn.out]; exact hlt
       have hjM : j < (AR.map Re.C).length := by rw [List.length_map]; exact hjl
       obtain ⟨b7, o7, rfl, hb7, hc7⟩ := HR6.out.zs.pos (by omega)
       have hcell : ∀ W, Grow wr W → W.cell? ⟨b7, o7 + j * 4, none⟩ = some (.int .u64 (AR[j].off : Nat)) ∧ W.cell? ⟨b7, o7 + j * 4 + 1, none⟩ = some (.int .u32 (AR[j].sym : Nat)) ∧ W.cell? ⟨b7, o7 + j * 4 + 2, none⟩ = some (.int .u32 (AR[j].ty : Nat)) ∧ W.cell? ⟨b7, o7 + j * 4 + 3, none⟩ = some (.int .i64 AR[j].add) := fun W hW => by
        have k0 : W.cell? ⟨b7, o7 + j * 4, none⟩ = wr.cell? ⟨b7, o7 + j * 4, none⟩ := Below.cell hW hb7
        refine ⟨k0.trans ?_, (Below.cell hW hb7).trans ?_, (Below.cell hW hb7).trans ?_, (Below.cell hW hb7).trans ?_⟩
        ·have := hc7 j hjM 0 (.int .u64 (AR[j].off : Nat)) (by rw [List.getElem_map]; rfl)
         simpa using this
        ·exact hc7 j hjM 1 _ (by rw [List.getElem_map]; rfl)
        ·exact hc7 j hjM 2 _ (by rw [List.getElem_map]; rfl)
        ·exact hc7 j hjM 3 _ (by rw [List.getElem_map]; rfl)
       have HCe := hid hcell
       have hso := (HRo.out AR[j] (List.getElem_mem hjl)).off
       obtain ⟨hs1, hs2, hs3⟩ := HStR.out j hjl
       have HI1 := hid hs1
       have HI2 := hid hs2
       have HI3 := hid hs3
       have HAk := hid (fun W hW => HAm.out AR[j].off W hW hso)
       have HIk := hid (fun W => HIs.out AR[j] W)
       clear hcell hc7 hb7 hjM hs1 hs2 hs3
       unfold Re.C at HIk
       generalize AR[j] = r at *
       generalize r.off = so at *
       generalize ir r.ty = is_ at *
       generalize r.ty = sty at *
       generalize r.sym = ssy at *
       generalize r.add = sad at *
       generalize am so wd = ax at *
       have w0 : (0 : Int) ≤ (j : Int) := by omega
       have w1' : (j : Int) < (NN : Int) := by omega
       have zk : IntKind.i64.wrap ((j : Int) + 1) = (j : Int) + 1 := by rw [IntKind.wrap_i64]; omega
       have zw : IntKind.u64.wrap (wd : Int) = (wd : Int) := by rw [IntKind.wrap_u64]; omega
       rcases ax with _ | ⟨i, p⟩
       ·have HNk := hid (HI2.out rfl)
        have HAr : Hid (∀ W, Grow w W → Calls Try.prog 24 #[.agg #[.bool f0, .bool f1, .int .u8 (f2 : Nat), .int .u8 (f3 : Nat), .int .u16 (f4 : Nat), .int .u16 (f5 : Nat), .int .u32 (f6 : Nat), .int .u64 (en : Nat), .slice A1 n1 c1, .slice A2 n2 c2, .int .i64 f10], .int .u64 (so : Int), .int .u64 (wd : Int)] W fun e w' => e = .returned (.tuple #[.int .i64 (-1), .int .i64 0]) ∧ Grow W w') := HAk
        clear HI1 HI2 HI3 HAk
        go_wp2_with fail
        refine wp_region_chain [(0, true), (1, true), (2, true), (3, true), (4, true), (5, true), (6, true), (7, true), (8, false), (9, true), (10, true), (11, true), (12, true), (13, true)] (by kernel_rfl) (by kernel_rfl) (by kernel_rfl) ?_
        have HGd : Hid (Grow wr wr.drew) := hid (Grow.of_drew _)
        have HJ7 := hid (HJ6.out.grow HGd.out)
        generalize wr.drew = V0 at *
        have q1 : ∀ W, Grow V0 W → _ := fun W hW => (HJ7.out.b.grow hW).c11
        have q2 : ∀ W, Grow V0 W → _ := fun W hW => HCe.out W (HGd.out.trans hW)
        repeat (first | (refine chain_take rfl (by rfl) ?_ (fun W hG => ?_) ?_; rotate_left; (obtain ⟨v0, v1, v2, v3, v4, v5, v6, v7, v8, v9, v10⟩ := q1 W hG; obtain ⟨u0, u1, u2, u3⟩ := q2 W hG; go_simp; rfl); simp only [Act.put, List.setIfInBounds_toArray, List.set_cons_zero, List.set_cons_succ]) | (refine chain_skip rfl (by rfl) ?_; simp only [Act.put, List.setIfInBounds_toArray, List.set_cons_zero, List.set_cons_succ]))
        clear q1 q2
        refine chain_only rfl (by rfl) (fun K hK => ?_)
        go_simp
        refine (HAr.out V0 HJ7.out.gw).mono ?_
        rintro e v1 ⟨rfl, hg⟩
        refine hK _ _ hg ?_
        clear hK K
        have HGe : Hid (Grow wr v1) := hid (HGd.out.trans hg)
        have HJ8 := hid (HJ6.out.grow HGe.out)
        clear hg HGd HJ7 HAr
        repeat (refine chain_take rfl (by rfl) ?_ (fun W hG => ?_) ?_; rotate_left; (go_simp; rfl); simp only [Act.put, List.setIfInBounds_toArray, List.set_cons_zero, List.set_cons_succ])
        refine chain_done ?_
        go_wp2_with fail
        refine wp_region_chain [(0, true), (1, true), (2, true), (3, true), (4, true), (5, false), (6, true)] (by kernel_rfl) (by kernel_rfl) (by kernel_rfl) ?_
        have HGf : Hid (Grow wr v1.drew) := hid (HGe.out.trans (Grow.of_drew _))
        have HJ8' := hid (HJ6.out.grow HGf.out)
        clear HGe HJ8
        generalize v1.drew = V1 at *
        have q1 : ∀ W, Grow V1 W → _ := fun W hW => (HJ8'.out.b.grow hW).c11
        have q2 : ∀ W, Grow V1 W → _ := fun W hW => HCe.out W (HGf.out.trans hW)
        repeat (first | (refine chain_take rfl (by rfl) ?_ (fun W hG => ?_) ?_; rotate_left; (obtain ⟨v0, v1, v2, v3, v4, v5, v6, v7, v8, v9, v10⟩ := q1 W hG; obtain ⟨u0, u1, u2, u3⟩ := q2 W hG; go_simp; rfl); simp only [Act.put, List.setIfInBounds_toArray, List.set_cons_zero, List.set_cons_succ]) | (refine chain_skip rfl (by rfl) ?_; simp only [Act.put, List.setIfInBounds_toArray, List.set_cons_zero, List.set_cons_succ]))
        clear q1 q2
        refine chain_only rfl (by rfl) (fun K hK => ?_)
        go_simp
        refine (HIk.out V1).mono ?_
        rintro e v2 ⟨rfl, hg⟩
        refine hK _ _ hg ?_
        clear hK K
        have HGg : Hid (Grow wr v2) := hid (HGf.out.trans hg)
        have HJ9 := hid (HJ6.out.grow HGg.out)
        have HR9 := hid (HR6.out.keep HGg.out)
        clear hg HGf HJ8' HIk HJ6 HR6 HGg HCe
        repeat (refine chain_take rfl (by rfl) ?_ (fun W hG => ?_) ?_; rotate_left; (go_simp; rfl); simp only [Act.put, List.setIfInBounds_toArray, List.set_cons_zero, List.set_cons_succ])
        refine chain_done ?_
        go_wp2
        go_roundw
        case rel => exact ⟨j + 1, A, c, by omega, by go_num, by rw [HNk.out]; exact HJ9.out, HR9.out⟩
        case measure => simp [intOf]; omega
       ·have HAr : Hid (∀ W, Grow w W → Calls Try.prog 24 #[.agg #[.bool f0, .bool f1, .int .u8 (f2 : Nat), .int .u8 (f3 : Nat), .int .u16 (f4 : Nat), .int .u16 (f5 : Nat), .int .u32 (f6 : Nat), .int .u64 (en : Nat), .slice A1 n1 c1, .slice A2 n2 c2, .int .i64 f10], .int .u64 (so : Int), .int .u64 (wd : Int)] W fun e w' => e = .returned (.tuple #[.int .i64 (i : Int), .int .i64 (p : Int)]) ∧ Grow W w') := HAk
        have d3 : decide ((i : Int) < 0) = false := decide_eq_false (by omega)
        clear HAk HI2
        cases is_ with
        | false =>
         have HNk := hid (HI1.out rfl)
         clear HI1 HI3
         go_wp2_with fail
         refine wp_region_chain [(0, true), (1, true), (2, true), (3, true), (4, true), (5, true), (6, true), (7, true), (8, false), (9, true), (10, true), (11, true), (12, true), (13, true)] (by kernel_rfl) (by kernel_rfl) (by kernel_rfl) ?_
         have HGd : Hid (Grow wr wr.drew) := hid (Grow.of_drew _)
         have HJ7 := hid (HJ6.out.grow HGd.out)
         generalize wr.drew = V0 at *
         have q1 : ∀ W, Grow V0 W → _ := fun W hW => (HJ7.out.b.grow hW).c11
         have q2 : ∀ W, Grow V0 W → _ := fun W hW => HCe.out W (HGd.out.trans hW)
         repeat (first | (refine chain_take rfl (by rfl) ?_ (fun W hG => ?_) ?_; rotate_left; (obtain ⟨v0, v1, v2, v3, v4, v5, v6, v7, v8, v9, v10⟩ := q1 W hG; obtain ⟨u0, u1, u2, u3⟩ := q2 W hG; go_simp; rfl); simp only [Act.put, List.setIfInBounds_toArray, List.set_cons_zero, List.set_cons_succ]) | (refine chain_skip rfl (by rfl) ?_; simp only [Act.put, List.setIfInBounds_toArray, List.set_cons_zero, List.set_cons_succ]))
         clear q1 q2
         refine chain_only rfl (by rfl) (fun K hK => ?_)
         go_simp
         refine (HAr.out V0 HJ7.out.gw).mono ?_
         rintro e v1 ⟨rfl, hg⟩
         refine hK _ _ hg ?_
         clear hK K
         have HGe : Hid (Grow wr v1) := hid (HGd.out.trans hg)
         have HJ8 := hid (HJ6.out.grow HGe.out)
         clear hg HGd HJ7 HAr
         repeat (refine chain_take rfl (by rfl) ?_ (fun W hG => ?_) ?_; rotate_left; (go_simp; rfl); simp only [Act.put, List.setIfInBounds_toArray, List.set_cons_zero, List.set_cons_succ])
         refine chain_done ?_
         go_wp2_with fail
         refine wp_region_chain [(0, true), (1, true), (2, true), (3, true), (4, true), (5, false), (6, true)] (by kernel_rfl) (by kernel_rfl) (by kernel_rfl) ?_
         have HGf : Hid (Grow wr v1.drew) := hid (HGe.out.trans (Grow.of_drew _))
         have HJ8' := hid (HJ6.out.grow HGf.out)
         clear HGe HJ8
         generalize v1.drew = V1 at *
         have q1 : ∀ W, Grow V1 W → _ := fun W hW => (HJ8'.out.b.grow hW).c11
         have q2 : ∀ W, Grow V1 W → _ := fun W hW => HCe.out W (HGf.out.trans hW)
         repeat (first | (refine chain_take rfl (by rfl) ?_ (fun W hG => ?_) ?_; rotate_left; (obtain ⟨v0, v1, v2, v3, v4, v5, v6, v7, v8, v9, v10⟩ := q1 W hG; obtain ⟨u0, u1, u2, u3⟩ := q2 W hG; go_simp; rfl); simp only [Act.put, List.setIfInBounds_toArray, List.set_cons_zero, List.set_cons_succ]) | (refine chain_skip rfl (by rfl) ?_; simp only [Act.put, List.setIfInBounds_toArray, List.set_cons_zero, List.set_cons_succ]))
         clear q1 q2
         refine chain_only rfl (by rfl) (fun K hK => ?_)
         go_simp
         refine (HIk.out V1).mono ?_
         rintro e v2 ⟨rfl, hg⟩
         refine hK _ _ hg ?_
         clear hK K
         have HGg : Hid (Grow wr v2) := hid (HGf.out.trans hg)
         have HJ9 := hid (HJ6.out.grow HGg.out)
         have HR9 := hid (HR6.out.keep HGg.out)
         clear hg HGf HJ8' HIk HJ6 HR6 HGg HCe
         repeat (refine chain_take rfl (by rfl) ?_ (fun W hG => ?_) ?_; rotate_left; (go_simp; rfl); simp only [Act.put, List.setIfInBounds_toArray, List.set_cons_zero, List.set_cons_succ])
         refine chain_done ?_
         go_wp2
         go_roundw
         case rel => exact ⟨j + 1, A, c, by omega, by go_num, by rw [HNk.out]; exact HJ9.out, HR9.out⟩
         case measure => simp [intOf]; omega
        | true =>
         obtain ⟨hi, hp, hle2, hput⟩ := HI3.out i p rfl rfl
         have HPu := hid hput
         clear HI1 HI3 hput
         go_wp2_with fail
         refine wp_region_chain [(0, true), (1, true), (2, true), (3, true), (4, true), (5, true), (6, true), (7, true), (8, false), (9, true), (10, true), (11, true), (12, true), (13, true)] (by kernel_rfl) (by kernel_rfl) (by kernel_rfl) ?_
         have HGd : Hid (Grow wr wr.drew) := hid (Grow.of_drew _)
         have HJ7 := hid (HJ6.out.grow HGd.out)
         generalize wr.drew = V0 at *
         have q1 : ∀ W, Grow V0 W → _ := fun W hW => (HJ7.out.b.grow hW).c11
         have q2 : ∀ W, Grow V0 W → _ := fun W hW => HCe.out W (HGd.out.trans hW)
         repeat (first | (refine chain_take rfl (by rfl) ?_ (fun W hG => ?_) ?_; rotate_left; (obtain ⟨v0, v1, v2, v3, v4, v5, v6, v7, v8, v9, v10⟩ := q1 W hG; obtain ⟨u0, u1, u2, u3⟩ := q2 W hG; go_simp; rfl); simp only [Act.put, List.setIfInBounds_toArray, List.set_cons_zero, List.set_cons_succ]) | (refine chain_skip rfl (by rfl) ?_; simp only [Act.put, List.setIfInBounds_toArray, List.set_cons_zero, List.set_cons_succ]))
         clear q1 q2
         refine chain_only rfl (by rfl) (fun K hK => ?_)
         go_simp
         refine (HAr.out V0 HJ7.out.gw).mono ?_
         rintro e v1 ⟨rfl, hg⟩
         refine hK _ _ hg ?_
         clear hK K
         have HGe : Hid (Grow wr v1) := hid (HGd.out.trans hg)
         have HJ8 := hid (HJ6.out.grow HGe.out)
         clear hg HGd HJ7 HAr
         repeat (refine chain_take rfl (by rfl) ?_ (fun W hG => ?_) ?_; rotate_left; (go_simp; rfl); simp only [Act.put, List.setIfInBounds_toArray, List.set_cons_zero, List.set_cons_succ])
         refine chain_done ?_
         go_wp2_with fail
         refine wp_region_chain [(0, true), (1, true), (2, true), (3, true), (4, true), (5, false), (6, true)] (by kernel_rfl) (by kernel_rfl) (by kernel_rfl) ?_
         have HGf : Hid (Grow wr v1.drew) := hid (HGe.out.trans (Grow.of_drew _))
         have HJ8' := hid (HJ6.out.grow HGf.out)
         clear HGe HJ8
         generalize v1.drew = V1 at *
         have q1 : ∀ W, Grow V1 W → _ := fun W hW => (HJ8'.out.b.grow hW).c11
         have q2 : ∀ W, Grow V1 W → _ := fun W hW => HCe.out W (HGf.out.trans hW)
         repeat (first | (refine chain_take rfl (by rfl) ?_ (fun W hG => ?_) ?_; rotate_left; (obtain ⟨v0, v1, v2, v3, v4, v5, v6, v7, v8, v9, v10⟩ := q1 W hG; obtain ⟨u0, u1, u2, u3⟩ := q2 W hG; go_simp; rfl); simp only [Act.put, List.setIfInBounds_toArray, List.set_cons_zero, List.set_cons_succ]) | (refine chain_skip rfl (by rfl) ?_; simp only [Act.put, List.setIfInBounds_toArray, List.set_cons_zero, List.set_cons_succ]))
         clear q1 q2
         refine chain_only rfl (by rfl) (fun K hK => ?_)
         go_simp
         refine (HIk.out V1).mono ?_
         rintro e v2 ⟨rfl, hg⟩
         refine hK _ _ hg ?_
         clear hK K
         have HGg : Hid (Grow wr v2) := hid (HGf.out.trans hg)
         have HJ9 := hid (HJ6.out.grow HGg.out)
         have HR9 := hid (HR6.out.keep HGg.out)
         clear hg HGf HJ8' HIk HJ6 HR6 HGg HCe
         repeat (refine chain_take rfl (by rfl) ?_ (fun W hG => ?_) ?_; rotate_left; (go_simp; rfl); simp only [Act.put, List.setIfInBounds_toArray, List.set_cons_zero, List.set_cons_succ])
         refine chain_done ?_
         go_wp2_with fail
         refine wp_region_chain [(0, true), (1, true), (2, true), (3, true), (4, true), (5, true), (6, true), (7, true), (8, true), (9, true), (10, true), (11, true), (12, true), (13, true), (14, false), (15, true), (16, true), (17, true), (18, true), (19, true)] (by kernel_rfl) (by kernel_rfl) (by kernel_rfl) ?_
         have HJa := hid (HJ9.out.grow (Grow.of_drew _))
         have HRa := hid (HR9.out.keep (Grow.of_drew _))
         clear HJ9 HR9
         generalize v2.drew = V2 at *
         have hzr := HJa.out.s.zr HJa.out.bs
         have hin : i < n1 := by rw [hzr.len]; exact hi
         obtain ⟨bA, oA, rfl, hbA⟩ := hzr.pos (by omega)
         obtain ⟨A8, n8, c8, -, pc, gk⟩ := hzr.at hi
         have hgk : RB V2 V2.heap.size A8 n8 c8 (N j).segs[i].pl.own := gk
         have HGk := hid hgk
         have q1 : ∀ W, Grow V2 W → _ := fun W hW => (HJa.out.b.grow hW).c11
         have q3 : ∀ W, Grow V2 W → W.cell? ⟨go, 8, none⟩ = some (.slice (some ⟨bA, oA, none⟩) n1 c) := fun W hW => (HJa.out.o.grow hW).at 8
         have q4 : ∀ W, Grow V2 W → W.cell? ⟨bA, oA + i * 10 + 9, none⟩ = some (.slice A8 n8 c8) := fun W hW => (Below.cell hW hbA).trans (pc 9 _ rfl)
         clear hzr pc gk hgk hbA
         generalize (N j).segs[i].pl.own = ow at *
         have i0 : (0 : Int) ≤ (i : Int) := by omega
         have i1 : (i : Int) < (n1 : Int) := by omega
         have zp : IntKind.u64.wrap (p : Int) = (p : Int) := by rw [IntKind.wrap_u64]; omega
         repeat (first | (refine chain_take rfl (by rfl) ?_ (fun W hG => ?_) ?_; rotate_left; (obtain ⟨v0, v1, v2, v3, v4, v5, v6, v7, v8, v9, v10⟩ := q1 W hG; have t8 := q3 W hG; have t9 := q4 W hG; go_simp; rfl); simp only [Act.put, List.setIfInBounds_toArray, List.set_cons_zero, List.set_cons_succ]) | (refine chain_skip rfl (by rfl) ?_; simp only [Act.put, List.setIfInBounds_toArray, List.set_cons_zero, List.set_cons_succ]))
         clear q1 q3 q4
         refine chain_only rfl (by rfl) (fun K hK => ?_)
         go_simp
         refine (HGt.out A8 n8 c8 ow _ p V2 HGk.out).mono ?_
         rintro e v3 ⟨rfl, rfl⟩
         refine hK _ _ (Grow.refl _) ?_
         clear hK K HGk
         rw [HGv.out ow p hp]
         generalize getB ((ow.drop p).take wd) f1 = vv at *
         repeat (refine chain_take rfl (by rfl) ?_ (fun W hG => ?_) ?_; rotate_left; (go_simp; rfl); simp only [Act.put, List.setIfInBounds_toArray, List.set_cons_zero, List.set_cons_succ])
         refine chain_done ?_
         have zv : IntKind.u64.wrap ((vv : Int) + (d : Int)) = (((vv + d) % 18446744073709551616 : Nat) : Int) := by rw [IntKind.wrap_u64]; omega
         generalize (vv + d) % 18446744073709551616 = v5' at *
         obtain ⟨m0, m1, m2, m3, m4, m5, m6, m7, m8, m9, m10⟩ := HJa.out.o.c11
         go_wp2_with fail
         clear m0 m1 m2 m3 m4 m5 m6 m7 m8 m9 m10
         refine (HPu.out (some ⟨bA, oA, none⟩) c A5 c5 Bs V2 HJa.out.s HJa.out.bs).mono ?_
         rintro e v4 ⟨A9, c9, rfl, hgm9, hg9⟩
         have HJb := hid (HJa.out.grow hg9)
         have HRb := hid (HRa.out.keep hg9)
         have HJc := hid (HJb.out.sto HGo.out.1 HGo.out.2 hgm9 #[.bool f0, .bool f1, .int .u8 (f2 : Nat), .int .u8 (f3 : Nat), .int .u16 (f4 : Nat), .int .u16 (f5 : Nat), .int .u32 (f6 : Nat), .int .u64 (en2 : Nat), .slice A9 n1 c9, .slice A5 n2 c5, .int .i64 f10])
         have HRc := hid (HJb.out.row #[.bool f0, .bool f1, .int .u8 (f2 : Nat), .int .u8 (f3 : Nat), .int .u16 (f4 : Nat), .int .u16 (f5 : Nat), .int .u32 (f6 : Nat), .int .u64 (en2 : Nat), .slice A9 n1 c9, .slice A5 n2 c5, .int .i64 f10] HRb.out (by decide))
         clear hgm9 hg9 HJa HRa HRb HPu
         go_wp2_with (first | (refine wpList_store_row rfl 32 (.tmp 8) (.tmp 124) rfl go _ rfl rfl _ _ HJb.out.o (by kernel_rfl) rfl (by simp [Value.oneCell']) ?_) | fail)
         go_roundw
         case rel => exact ⟨j + 1, A9, c9, by omega, by go_num, HJc.out, HRc.out⟩
         case measure => simp [intOf]; omega
      ·have e : j = NN := by omega
       subst e
       have hN : N j = E 0 := by rw [HLn.out]; exact HStL.out
       rw [hN] at HJ6
       have d1 : decide ((j : Int) < (j : Int)) = false := decide_eq_false (by omega)
       clear hN HStR HAm HIs HGt HGv HRo HR6 HStL HLn HmC HmS
       obtain ⟨v0, v1, v2, v3, v4, v5, v6, v7, v8, v9, v10⟩ := HJ6.out.b.c11
       go_wp2_with fail
       clear v0 v1 v2 v3 v4 v5 v6 v7 v8 v9 v10
       refine (HDy.out wr HJ6.out.gw).mono ?_
       rintro e w4 ⟨rfl, hg⟩
       have HJ7 := hid (HJ6.out.grow hg)
       clear hg HJ6 HDy
       cases hdy with
       | false =>
        have hDN : DN = -1 := HDN.out
        subst hDN
        have hin : DP.inn = -1 := by rw [HDP.out]; rfl
        have HF := hid ((HFin.out (by first | trivial | rfl)).1 hin)
        clear HStE HEn HAd HFin HDN HDP HHd HDs HIn HRm HEo hin
        obtain ⟨m0, m1, m2, m3, m4, m5, m6, m7, m8, m9, m10⟩ := HJ7.out.o.c11
        go_wp2_with (first | (refine wpList_store_row rfl 32 (.tmp 4) (.tmp 129) rfl gr _ rfl rfl _ _ HJ7.out.r (by kernel_rfl) rfl (by simp [Value.oneCell']) ?_) | fail)
        clear m0 m1 m2 m3 m4 m5 m6 m7 m8 m9 m10
        refine rr_ret rfl rfl rfl (HJ7.out.r.set _) ?_
        exact HEnd.out _ _ _ _ HJ7.out HF.out
       | true =>
        have hDN : DN = (DI : Int) := HDN.out
        subst hDN
        have hDI : DI < l.length := of_decide_eq_true HHd.out.symm
        have hDP : DP = l[DI].pl := by rw [HDP.out]; show ds.pl = _; rw [HDs.out hDI]
        have d2 : decide ((DI : Int) < 0) = false := decide_eq_false (by omega)
        have i0 : (0 : Int) ≤ (DI : Int) := by omega
        have i1 : (DI : Int) < (n1 : Int) := by have := HL.out; omega
        obtain ⟨b, off, hAA, hb⟩ := HS.out.pos (by have := HL.out; omega)
        subst hAA
        obtain ⟨Ak, nk, ck, -, p, gk⟩ := HS.out.at hDI
        have hQ : ∀ W, Grow w W → W.cell? ⟨b, off + DI * 10 + 6, none⟩ = some (.int .i64 DP.inn) ∧ W.cell? ⟨b, off + DI * 10 + 7, none⟩ = some (.int .u64 (DP.off : Nat)) ∧ W.cell? ⟨b, off + DI * 10 + 8, none⟩ = some (.int .u64 (DP.size : Nat)) ∧ W.cell? ⟨b, off + DI * 10 + 9, none⟩ = some (.slice Ak nk ck) := fun W hW => by
         rw [hDP]
         exact ⟨(Below.cell hW hb).trans (p 6 _ rfl), (Below.cell hW hb).trans (p 7 _ rfl), (Below.cell hW hb).trans (p 8 _ rfl), (Below.cell hW hb).trans (p 9 _ rfl)⟩
        obtain ⟨t6, t7, t8, t9⟩ := hQ w4 HJ7.out.gw
        clear p gk hb hQ hDP HDN HDP HHd HDs hDI
        have y8 : w4.cell? ⟨gm, 8, none⟩ = some (.slice (some ⟨b, off, none⟩) n1 c1) := HJ7.out.b.at 8
        have f0' : ∀ o, (w4.alloc o).cell? ⟨gm, 0, none⟩ = some (.bool f0) := fun o => (HJ7.out.b.alloc o).at 0
        have f1' : ∀ o, (w4.alloc o).cell? ⟨gm, 1, none⟩ = some (.bool f1) := fun o => (HJ7.out.b.alloc o).at 1
        have f2' : ∀ o, (w4.alloc o).cell? ⟨gm, 2, none⟩ = some (.int .u8 (f2 : Nat)) := fun o => (HJ7.out.b.alloc o).at 2
        have f3' : ∀ o, (w4.alloc o).cell? ⟨gm, 3, none⟩ = some (.int .u8 (f3 : Nat)) := fun o => (HJ7.out.b.alloc o).at 3
        have f4' : ∀ o, (w4.alloc o).cell? ⟨gm, 4, none⟩ = some (.int .u16 (f4 : Nat)) := fun o => (HJ7.out.b.alloc o).at 4
        have f5' : ∀ o, (w4.alloc o).cell? ⟨gm, 5, none⟩ = some (.int .u16 (f5 : Nat)) := fun o => (HJ7.out.b.alloc o).at 5
        have f6' : ∀ o, (w4.alloc o).cell? ⟨gm, 6, none⟩ = some (.int .u32 (f6 : Nat)) := fun o => (HJ7.out.b.alloc o).at 6
        have f7' : ∀ o, (w4.alloc o).cell? ⟨gm, 7, none⟩ = some (.int .u64 (en : Nat)) := fun o => (HJ7.out.b.alloc o).at 7
        have f8' : ∀ o, (w4.alloc o).cell? ⟨gm, 8, none⟩ = some (.slice (some ⟨b, off, none⟩) n1 c1) := fun o => (HJ7.out.b.alloc o).at 8
        have f9' : ∀ o, (w4.alloc o).cell? ⟨gm, 9, none⟩ = some (.slice A2 n2 c2) := fun o => (HJ7.out.b.alloc o).at 9
        have f10' : ∀ o, (w4.alloc o).cell? ⟨gm, 10, none⟩ = some (.int .i64 f10) := fun o => (HJ7.out.b.alloc o).at 10
        go_wp2_with fail
        clear t6 t7 t8 t9 y8 f0' f1' f2' f3' f4' f5' f6' f7' f8' f9' f10' HS
        generalize hW : World.alloc _ _ = W5
        obtain ⟨bp, hg5⟩ := blk1 hW
        clear hW
        have HJ8 := hid (HJ7.out.grow hg5)
        have HNp : Hid (go ≠ w4.heap.size) := hid (by have := HJ7.out.o.lt; omega)
        refine (HEn.out W5 HJ8.out.gw).mono ?_
        rintro e w6 ⟨AL, nL, cL, rfl, hzl, hg⟩
        have HJ9 := hid (HJ8.out.grow hg)
        have HP9 := hid (bp.grow hg)
        have HZ9 := hid hzl
        have hnl : nL = EL.length := by have := hzl.2.1; rwa [List.length_map] at this
        clear bp hg5 hg hzl HJ7 HJ8 HEn
        generalize w4.heap.size = gp at *
        generalize W5.heap.size = BE at *
        go_wp2_with fail
        rcases HIn.out with hin | hin
        ·have HF := hid ((HFin.out (by first | trivial | rfl)).1 hin)
         have hin2 : decide (0 ≤ DP.inn) = false := decide_eq_false (by omega)
         have hin3 : DP.inn = -1 := hin
         clear HStE HAd HFin HIn HRm HEo hin
         generalize DP.inn = inn at *
         subst hin3
         go_loopw [20] (fun i wr => ∃ (A : Option Addr) (c : Nat), i = .int .i64 0 ∧ RJ w wr gm gr go #[.bool f0, .bool f1, .int .u8 (f2 : Nat), .int .u8 (f3 : Nat), .int .u16 (f4 : Nat), .int .u16 (f5 : Nat), .int .u32 (f6 : Nat), .int .u64 (en : Nat), .slice (some ⟨b, off, none⟩) n1 c1, .slice A2 n2 c2, .int .i64 f10] #[.bool false, .bool false, .int .u8 0, .int .u8 0, .int .u16 0, .int .u16 0, .int .u32 0, .int .u64 0, .slice none 0 0, .slice none 0 0, .int .i64 0] #[.bool f0, .bool f1, .int .u8 (f2 : Nat), .int .u8 (f3 : Nat), .int .u16 (f4 : Nat), .int .u16 (f5 : Nat), .int .u32 (f6 : Nat), .int .u64 (en2 : Nat), .slice A n1 c, .slice A5 n2 c5, .int .i64 f10] A n1 c (E 0).segs A5 n2 c5 L2 Bs ∧ Blk wr gp 46 #[.int .i64 (-1), .int .u64 (DP.off : Nat), .int .u64 (DP.size : Nat), .slice Ak nk ck]) (fun _ _ => 0)
         case atStart => exact ⟨_, _, rfl, HJ9.out, HP9.out⟩
         case round =>
          obtain ⟨A, c, rfl, hjj, hpp⟩ := hrel
          have HJa := hid hjj
          have z0 : wr.cell? ⟨gp, 0, none⟩ = some (.int .i64 (-1)) := hpp.at 0
          clear hjj hpp HJ9 HP9
          obtain ⟨m0, m1, m2, m3, m4, m5, m6, m7, m8, m9, m10⟩ := HJa.out.o.c11
          by_cases hl0 : (0 : Int) < (nL : Int)
          ·have dl : decide ((0 : Int) < (nL : Int)) = true := decide_eq_true hl0
           go_wp2_with (first | (refine wpList_store_row rfl 32 (.tmp 4) (.tmp 177) rfl gr _ rfl rfl _ _ HJa.out.r (by kernel_rfl) rfl (by simp [Value.oneCell']) ?_) | fail)
           clear m0 m1 m2 m3 m4 m5 m6 m7 m8 m9 m10
           refine rr_ret rfl rfl rfl (HJa.out.r.set _) ?_
           exact HEnd.out _ _ _ _ HJa.out HF.out
          ·have dl : decide ((0 : Int) < (nL : Int)) = false := decide_eq_false hl0
           go_wp2_with (first | (refine wpList_store_row rfl 32 (.tmp 4) (.tmp 177) rfl gr _ rfl rfl _ _ HJa.out.r (by kernel_rfl) rfl (by simp [Value.oneCell']) ?_) | fail)
           clear m0 m1 m2 m3 m4 m5 m6 m7 m8 m9 m10
           refine rr_ret rfl rfl rfl (HJa.out.r.set _) ?_
           exact HEnd.out _ _ _ _ HJa.out HF.out
        ·have hne : DP.inn ≠ -1 := by omega
         have HF := hid ((HFin.out (by first | trivial | rfl)).2 hne)
         have HSt := hid (fun k hk => HStE.out k hk hne)
         have HRk := hid (fun k hk => HRm.out hne k hk)
         have hin2 : decide (0 ≤ DP.inn) = true := decide_eq_true hin
         clear HStE HFin HIn HRm hne
         generalize DP.inn = inn at *
         generalize DP.off = po at *
         go_loopw [20] (fun i wr => ∃ (k : Nat) (A : Option Addr) (c : Nat), k ≤ nL ∧ i = .int .i64 k ∧ RJ w wr gm gr go #[.bool f0, .bool f1, .int .u8 (f2 : Nat), .int .u8 (f3 : Nat), .int .u16 (f4 : Nat), .int .u16 (f5 : Nat), .int .u32 (f6 : Nat), .int .u64 (en : Nat), .slice (some ⟨b, off, none⟩) n1 c1, .slice A2 n2 c2, .int .i64 f10] #[.bool false, .bool false, .int .u8 0, .int .u8 0, .int .u16 0, .int .u16 0, .int .u32 0, .int .u64 0, .slice none 0 0, .slice none 0 0, .int .i64 0] #[.bool f0, .bool f1, .int .u8 (f2 : Nat), .int .u8 (f3 : Nat), .int .u16 (f4 : Nat), .int .u16 (f5 : Nat), .int .u32 (f6 : Nat), .int .u64 (en2 : Nat), .slice A n1 c, .slice A5 n2 c5, .int .i64 f10] A n1 c (E k).segs A5 n2 c5 L2 Bs ∧ Blk wr gp 46 #[.int .i64 inn, .int .u64 (po : Nat), .int .u64 (DP.size : Nat), .slice Ak nk ck] ∧ ZO wr BE 77 2 AL nL cL (EL.map Dy.C)) (fun i _ => nL - (intOf i).toNat)
         case atStart => exact ⟨0, _, _, Nat.zero_le _, rfl, HJ9.out, HP9.out, HZ9.out⟩
         case round =>
          obtain ⟨k, A, c, hk, rfl, hjj, hpp, hzz⟩ := hrel
          have HJa := hid hjj
          have HPa := hid hpp
          have HZa := hid hzz
          have z0 : wr.cell? ⟨gp, 0, none⟩ = some (.int .i64 inn) := hpp.at 0
          clear hjj hpp hzz HJ9 HP9 HZ9
          by_cases hlt : k < nL
          ·have hkl : k < EL.length := by rw [← hnl]; exact hlt
           have hkM : k < (EL.map Dy.C).length := by rw [List.length_map]; exact hkl
           obtain ⟨b7, o7, rfl, hb7, hc7⟩ := HZa.out.zs.pos (by omega)
           have hcell : ∀ W, Grow wr W → W.cell? ⟨b7, o7 + k * 2, none⟩ = some (.int .u64 (EL[k].tag : Nat)) ∧ W.cell? ⟨b7, o7 + k * 2 + 1, none⟩ = some (.int .u64 (EL[k].val : Nat)) := fun W hW => by
            have k0 : W.cell? ⟨b7, o7 + k * 2, none⟩ = wr.cell? ⟨b7, o7 + k * 2, none⟩ := Below.cell hW hb7
            refine ⟨k0.trans ?_, (Below.cell hW hb7).trans ?_⟩
            ·have := hc7 k hkM 0 (.int .u64 (EL[k].tag : Nat)) (by rw [List.getElem_map]; rfl)
             simpa using this
            ·exact hc7 k hkM 1 _ (by rw [List.getElem_map]; rfl)
           have HCe := hid hcell
           have heo := HEo.out EL[k] (List.getElem_mem hkl)
           have hvl := heo.val
           obtain ⟨hs1, hs2⟩ := HSt.out k hkl
           have HI1 := hid hs1
           have HI2 := hid hs2
           have HAk := hid (fun W hW => HAd.out EL[k] heo W hW)
           have hrm := HRk.out k hkl
           clear hcell hc7 hkM hs1 hs2 heo
           unfold Dy.C at HAk
           generalize EL[k] = en0 at *
           clear hkl
           generalize ia en0 = ia_ at *
           generalize en0.tag = tg at *
           generalize en0.val = vl at *
           have w0 : (0 : Int) ≤ (k : Int) := by omega
           have w1' : (k : Int) < (nL : Int) := by omega
           have zk : IntKind.i64.wrap ((k : Int) + 1) = (k : Int) + 1 := by rw [IntKind.wrap_i64]; omega
           go_wp2_with fail
           refine wp_region_chain [(0, true), (1, true), (2, true), (3, true), (4, true), (5, false), (6, true)] (by kernel_rfl) (by kernel_rfl) (by kernel_rfl) ?_
           clear z0
           have HGd : Hid (Grow wr wr.drew) := hid (Grow.of_drew _)
           have HJb := hid (HJa.out.grow HGd.out)
           generalize wr.drew = V0 at *
           have q1 : ∀ W, Grow V0 W → _ := fun W hW => (HJb.out.b.grow hW).c11
           have q2 : ∀ W, Grow V0 W → _ := fun W hW => HCe.out W (HGd.out.trans hW)
           repeat (first | (refine chain_take rfl (by rfl) ?_ (fun W hG => ?_) ?_; rotate_left; (obtain ⟨v0, v1, v2, v3, v4, v5, v6, v7, v8, v9, v10⟩ := q1 W hG; obtain ⟨u0, u1⟩ := q2 W hG; go_simp; rfl); simp only [Act.put, List.setIfInBounds_toArray, List.set_cons_zero, List.set_cons_succ]) | (refine chain_skip rfl (by rfl) ?_; simp only [Act.put, List.setIfInBounds_toArray, List.set_cons_zero, List.set_cons_succ]))
           clear q1 q2
           refine chain_only rfl (by rfl) (fun K hK => ?_)
           go_simp
           refine (HAk.out V0 HJb.out.gw).mono ?_
           rintro e v1 ⟨rfl, hg⟩
           refine hK _ _ hg ?_
           clear hK K
           have HGe : Hid (Grow wr v1) := hid (HGd.out.trans hg)
           clear hg HGd HJb HAk
           repeat (refine chain_take rfl (by rfl) ?_ (fun W hG => ?_) ?_; rotate_left; (go_simp; rfl); simp only [Act.put, List.setIfInBounds_toArray, List.set_cons_zero, List.set_cons_succ])
           refine chain_done ?_
           cases ia_ with
           | false =>
            have HNk := hid (HI1.out rfl)
            clear HI1 HI2 HCe
            go_wp2
            go_roundw
            case rel => exact ⟨k + 1, A, c, by omega, by go_num, by rw [HNk.out]; exact HJa.out.grow HGe.out, HPa.out.grow HGe.out, HZa.out.keep HGe.out⟩
            case measure => simp [intOf]; omega
           | true =>
            have HPu := hid (HI2.out rfl)
            clear HI1 HI2
            go_wp2_with fail
            have hgv : Grow wr v1.drew := HGe.out.trans (Grow.of_drew _)
            have HJc := hid (HJa.out.grow hgv)
            have HPc := hid (HPa.out.grow hgv)
            have HZc := hid (HZa.out.keep hgv)
            have HCv := hid (HCe.out _ hgv).2
            have hb8 : b7 < v1.drew.heap.size := Nat.lt_of_lt_of_le hb7 hgv.size
            refine wp_region_last (leap_kept (fun j => j < v1.drew.heap.size)) [(0, true), (1, true), (2, true), (3, true), (4, true), (5, true), (6, true), (7, true), (8, true), (9, true), (10, true), (11, true), (12, true), (13, true), (14, true), (15, true), (16, true), (17, true), (18, true), (19, true), (20, false)] 21 (by kernel_rfl) (by kernel_rfl) (by kernel_rfl) ?_
            clear hgv HGe HJa HPa HZa HCe hb7
            generalize v1.drew = V1 at *
            have HLo : Hid (go < V1.heap.size ∧ gp < V1.heap.size) := hid ⟨HJc.out.o.lt, HPc.out.lt⟩
            have q1 : ∀ W, Kept (fun j => j < V1.heap.size) V1 W → _ := fun W hW => (HJc.out.o.kept hW HLo.out.1).c11
            have q2 : ∀ W, Kept (fun j => j < V1.heap.size) V1 W → W.cell? ⟨b7, o7 + k * 2 + 1, none⟩ = some (.int .u64 (vl : Int)) := fun W hW => by
             have e1 : W.cell? ⟨b7, o7 + k * 2 + 1, none⟩ = V1.cell? ⟨b7, o7 + k * 2 + 1, none⟩ := by
              unfold World.cell?
              rw [hW.2 b7 hb8 hb8]
             exact e1.trans HCv.out
            have q3 : ∀ W, Kept (fun j => j < V1.heap.size) V1 W → W.cell? ⟨gp, 0, none⟩ = some (.int .i64 inn) := fun W hW => (HPc.out.kept hW HLo.out.2).at 0
            have q4 : ∀ W, Kept (fun j => j < V1.heap.size) V1 W → W.cell? ⟨gp, 1, none⟩ = some (.int .u64 (po : Int)) := fun W hW => (HPc.out.kept hW HLo.out.2).at 1
            obtain ⟨a1, ha1⟩ : ∃ a, a = 2 * wd := ⟨_, rfl⟩
            obtain ⟨a2, ha2⟩ : ∃ a, a = a1 * k := ⟨_, rfl⟩
            have ha3 : wd * (2 * k + 1) = a2 + wd := by rw [ha2, ha1, Nat.mul_add, Nat.mul_one, Nat.mul_left_comm, Nat.mul_assoc]
            rw [ha3, ← Nat.add_assoc] at hrm HPu
            obtain ⟨a3, ha4⟩ : ∃ a, a = po + a2 := ⟨_, rfl⟩
            rw [← ha4] at hrm HPu
            obtain ⟨a4, ha5⟩ : ∃ a, a = a3 + wd := ⟨_, rfl⟩
            rw [← ha5] at hrm HPu
            have zo : IntKind.i64.wrap (po : Int) = (po : Int) := by rw [IntKind.wrap_i64]; omega
            have z2 : IntKind.i64.wrap (2 * (wd : Int)) = (a1 : Int) := by rw [IntKind.wrap_i64]; omega
            have z3' : ((a1 : Int) * (k : Int)) = (a2 : Int) := by rw [ha2]; simp
            have z3 : IntKind.i64.wrap ((a1 : Int) * (k : Int)) = (a2 : Int) := by rw [z3', IntKind.wrap_i64]; omega
            have z4 : IntKind.i64.wrap ((po : Int) + (a2 : Int)) = (a3 : Int) := by rw [IntKind.wrap_i64]; omega
            have z5 : IntKind.i64.wrap ((a3 : Int) + (wd : Int)) = (a4 : Int) := by rw [IntKind.wrap_i64]; omega
            have zv : IntKind.u64.wrap ((vl : Int) + (d : Int)) = (((vl + d) % 18446744073709551616 : Nat) : Int) := by rw [IntKind.wrap_u64]; omega
            generalize (vl + d) % 18446744073709551616 = v5' at *
            clear z3' ha1 ha2 ha3 ha4 ha5
            repeat (first | (refine chain_take rfl (by rfl) ?_ (fun W hG => ?_) ?_; rotate_left; (obtain ⟨v0, v1, v2, v3, v4, v5, v6, v7, v8, v9, v10⟩ := q1 W hG; have t2 := q2 W hG; have t3 := q3 W hG; have t4 := q4 W hG; go_simp; rfl); simp only [Act.put, List.setIfInBounds_toArray, List.set_cons_zero, List.set_cons_succ]) | (refine chain_skip rfl (by rfl) ?_; simp only [Act.put, List.setIfInBounds_toArray, List.set_cons_zero, List.set_cons_succ]))
            clear q1 q2 q3 q4
            refine chain_only rfl (by rfl) (fun K hK => ?_)
            go_simp
            refine (HPu.out A c A5 c5 Bs V1 HJc.out.s HJc.out.bs).mono ?_
            rintro e v4 ⟨A9, c9, rfl, hgm9, hg9⟩
            refine hK _ _ (Kept.of_grow hg9) ?_
            clear hK K
            have HJd := hid (HJc.out.grow hg9)
            have HJe := hid (HJd.out.sto HGo.out.1 HGo.out.2 hgm9 #[.bool f0, .bool f1, .int .u8 (f2 : Nat), .int .u8 (f3 : Nat), .int .u16 (f4 : Nat), .int .u16 (f5 : Nat), .int .u32 (f6 : Nat), .int .u64 (en2 : Nat), .slice A9 n1 c9, .slice A5 n2 c5, .int .i64 f10])
            have HZe := hid (HJd.out.row #[.bool f0, .bool f1, .int .u8 (f2 : Nat), .int .u8 (f3 : Nat), .int .u16 (f4 : Nat), .int .u16 (f5 : Nat), .int .u32 (f6 : Nat), .int .u64 (en2 : Nat), .slice A9 n1 c9, .slice A5 n2 c5, .int .i64 f10] (HZc.out.keep hg9) (by decide))
            have HPe := hid ((HPc.out.grow hg9).byRowM (RJ.gone (W := v4) go #[.bool f0, .bool f1, .int .u8 (f2 : Nat), .int .u8 (f3 : Nat), .int .u16 (f4 : Nat), .int .u16 (f5 : Nat), .int .u32 (f6 : Nat), .int .u64 (en2 : Nat), .slice A9 n1 c9, .slice A5 n2 c5, .int .i64 f10]) (fun e => HNp.out (Option.some.inj e)))
            clear hgm9 hg9 HJc HZc HPc HPu
            refine chain_done (last_op rfl (by rfl) (fun K hK => ?_))
            refine wp_store_row 32 (.tmp 8) (.tmp 176) rfl go _ rfl rfl _ _ HJd.out.o (by kernel_rfl) rfl (by simp [Value.oneCell']) ?_
            refine hK _ _ ?_
            clear hK K
            go_wp2
            go_roundw
            case rel => exact ⟨k + 1, A9, c9, by omega, by go_num, HJe.out, HPe.out, HZe.out⟩
            case measure => simp [intOf]; omega
          ·have e : nL = k := by omega
           subst e
           have dl : decide ((nL : Int) < (nL : Int)) = false := decide_eq_false (by omega)
           have HF2 : Hid (RB_ = E nL) := hid (by rw [hnl]; exact HF.out)
           clear HF HSt HRk HZa HPa HAd HEo
           obtain ⟨m0, m1, m2, m3, m4, m5, m6, m7, m8, m9, m10⟩ := HJa.out.o.c11
           go_wp2_with (first | (refine wpList_store_row rfl 32 (.tmp 4) (.tmp 177) rfl gr _ rfl rfl _ _ HJa.out.r (by kernel_rfl) rfl (by simp [Value.oneCell']) ?_) | fail)
           clear m0 m1 m2 m3 m4 m5 m6 m7 m8 m9 m10
           refine rr_ret rfl rfl rfl (HJa.out.r.set _) ?_
           exact HEnd.out _ _ _ _ HJa.out HF2.out
 ·have e3 : ((f4 : Int) != 3) = true := by simp; omega
  have hR : rc = 11 := by rw [HC.out, if_neg h3]
  subst hR
  have HBR := hid (fun W gr => HBadR.out W gr (by decide))
  clear HBad HBadR HC h3 HStR HStE HFin HmC HmS HMv HWr HRt HRf HAm HIs HDy HEn HAd HGt HGv HS HSt0 HStL HRo HEo HAl HDP HDN HHd HDs HIn HRm hAlg HAb
  go_enter Try.func8, Try.ntmps8
  go_wp2
  refine rr_ret rfl rfl rfl (blk2 rfl).2.1 ?_
  exact HBR.out _ _ (blk2 rfl).2.1 (blk2 rfl).2.2
end Go.Proofs.Ytfpihkbpelbcbaa
