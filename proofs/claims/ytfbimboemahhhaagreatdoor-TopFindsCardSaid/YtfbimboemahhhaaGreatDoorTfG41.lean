/-
  Several texts in one: The walk of TopFinds, part 7; The walk of TopFinds, part 8; The walk of TopFinds; From what the frame tells of a slice of bytes that came in to RB; What came in as a number, and as a slice of bytes, opened; What came in as a slice of strings, opened to a list of names; What came in as a form, opened; What came in as a model, opened.
-/
import Derived.Test.YtfbimboemahhhaaGreatDoorTfG40
import Derived.Test.YtfbimboemahhhaaGreatDoorTfG39
import Derived.Test.YtfbimboemahhhaaGreatDoorTfG38
import Derived.Test.YtfbimboemahhhaaGreatDoorTfG2
import Derived.OpenShut
import Derived.Test.YtfbimboemahhhaaGreatDoorRows
import Derived.Deep.SlicePairs
import Derived.Lib.SmallJoins
import Derived.Test.YtfbimboemahhhaaGreatDoorTfG3
import Derived.SliceStrings
import Derived.Test.YtfbimboemahhhaaGreatDoorTfG4
import Derived.Test.YtfbimboemahhhaaGreatDoorTfG5
import Derived.Deep.Slices
import Derived.SizedLaws
namespace Go.Proofs.YtfbimboemahhhaaGreatDoor
open Go.Lib (hid)
open Go.RowKit
set_option maxRecDepth 100000
set_option linter.unusedVariables false
set_option maxHeartbeats 8000000 in
theorem tf_7 (n : Nat) (L : List Bs) (wide big : Bool) (S : ByteArray) (s : Bs) (hS : S = bstr s) (w : World) (hn : n ≤ 30) (hl : n = L.length) (he : ∀ s ∈ L, s.length ≤ 100)
  (H : ∀ a W, J27 L n wide big S w s a W → TfW w 27 a W) : ∀ a W, J24 L n wide big S w a W → TfW w 24 a W := by
 rintro a W ⟨gf, b, f, A3, c3, gx, A1, c1, A2, c2, Ar, cr, hf, hb, hg, ho, hz, h12, hss, h29, hx, hzg, hzr, h31, hzs⟩
 obtain ⟨tv, rfl⟩ := tf_frame a hf.size hf.defers
 have hv12 : tv 12 = .slice A3 (n + 1) c3 := h12
 have hv29 : tv 29 = .pointer (some ⟨gx, 0, none⟩) := h29
 have hv31 : tv 31 = .slice Ar (n + 1) cr := h31
 have hv3 : tv 3 = .string S := hf.t3
 have hv4 : tv 4 = .pointer (some ⟨gf, 0, none⟩) := hf.t4
 have hv9 : tv 9 = .bool true := hf.t9
 unfold TfW
 rw [hv12, hv29, hv31, hv3, hv4, hv9]
 clear hv12 hv29 hv31 hv3 hv4 hv9 hf
 clear h12 h29 h31
 have hea : ∀ s ∈ allT L f n, s.length ≤ 100 := allT_each (by rw [← hl]; exact ho.lt) he
 obtain ⟨b2, o2, hA2, -⟩ := hzr.pos (by omega)
 subst hA2
 obtain ⟨b3, o3, hA3, hb3, hc3⟩ := hss.pos (by omega)
 subst hA3
 obtain ⟨br, or, hAr, hbr, hcr⟩ := hzs.pos (by omega)
 subst hAr
 have hle := (atT_lt hn hea 0).2
 obtain ⟨Bq, eq, hbb, hrb, q9, q10, q11, q12⟩ := sec_at (k := 0) (ty := 3) (o := nmT L n f) hzr (show 0 < 3 by omega) rfl
 have HBy := hid (fun W' (hW : Grow W W') => mBytes_sec (mdFT L n wide big b f) A1 c1 (some ⟨b2, o2, none⟩) 3 c2 3 (nmT L n f) Bq eq W' rfl (hzg.grow hW) (hrb.grow hW) (by omega))
 unfold NewB at HBy
 have hal : (allT L f n).length = n + 1 := allT_len L f n
 have HGt : Hid (∀ k, k < n + 1 → ∀ A c W', RB W' W'.heap.size A (nmT L n f).length c (nmT L n f) → Calls Tryz.prog 14 #[.slice A (nmT L n f).length c, .int .u64 ((atT_ L n f).getD k 0 : Nat)] W' fun e w' => e = .returned (.tuple #[.string (bstr ((allT L f n).getD k [])), .bool true]) ∧ W' = w') := hid fun k hk A c W' hr => by
  have h1 := strGet_any A (nmT L n f).length c (nmT L n f) ((atT_ L n f).getD k 0) W' hr (by have := (atT_lt hn hea k).1; omega)
  have hkl : k < (atT_ L n f).length := by unfold atT_; rw [ats_len]; exact hk
  have h2 := (got_at hz (n + 1) (by rw [hal]; exact Nat.le_refl _) k ((atT_ L n f).getD k 0) (by rw [List.getD_eq_getElem?_getD]; unfold atT_ at hkl ⊢; rw [List.getElem?_eq_getElem hkl]; rfl)).2
  unfold GotN at h1
  rw [show nameAt (nmT L n f) ((atT_ L n f).getD k 0) = some ((allT L f n).getD k []) from h2] at h1
  exact h1
 have HRd : Hid (∀ k, k < n + 1 → W.cell? ⟨br, or + k * 6, none⟩ = some (.int .u32 ((atT_ L n f).getD k 0 : Nat))) := hid fun k hk => by
  have hk' : k < ((sysT (atT_ L n f) (n + 1)).map Sy.C).length := by simp [sysT, hk]
  have := hcr k hk' 0 (.int .u32 ((atT_ L n f).getD k 0 : Nat)) (by simp [sysT, Sy.C, syT])
  simpa using this
 have HNm : Hid (∀ k, k < n + 1 → W.cell? ⟨b3, o3 + k, none⟩ = some (.string (bstr ((allT L f n).getD k [])))) := hid fun k hk => hc3 k (by rw [hal]; exact hk)
 have HAt := hid (fun k => (atT_lt hn hea k).1)
 have HEa : Hid (∀ k, ((allT L f n).getD k []).length ≤ maxLen) := hid fun k => hss.size k
 have HTk : Hid (∀ k, k < n + 1 → (allT L f n).take (k + 1) = (allT L f n).take k ++ [(allT L f n).getD k []]) := hid fun k hk => by
  have hkl : k < (allT L f n).length := by rw [hal]; exact hk
  rw [takeS _ k hkl, List.getD_eq_getElem?_getD, List.getElem?_eq_getElem hkl]
  rfl
 have HTa : Hid ((allT L f n).take (n + 1) = allT L f n) := hid (List.take_of_length_le (by rw [hal]; exact Nat.le_refl _))
 have HEe : Hid (∀ s ∈ allT L f n, s.length ≤ maxLen) := hid fun s hs => Nat.le_trans (hea s hs) (by decide)
 have HJ : Hid (∀ Af cf v a W, TfF gf S a → Blk W gf 23 #[.bool wide, .bool big] → Grow w W →
  a.tmps.getD 29 undef = .pointer (some ⟨gx, 0, none⟩) → Blk W gx 51 (mdC (mdFT L n wide big b f) (.slice A1 0 c1) (.slice (some ⟨b2, o2, none⟩) 3 c2)) → ZR sgK W W.heap.size A1 0 c1 [] → ZR seK W W.heap.size (some ⟨b2, o2, none⟩) 3 c2 (mdFT L n wide big b f).secs →
  a.tmps.getD 33 undef = .slice Af (n + 1) cf → SS W W.heap.size Af (n + 1) cf (allT L f n) → a.tmps.getD 34 undef = .int .i64 (v : Nat) → WantT (allT L f n) s (n + 1) v → TfW w 27 a W) :=
  hid fun Af cf v a W k1 k2 k3 k6 k7 k8 k9 k10 k11 k12 k13 => H a W ⟨gf, b, f, gx, A1, c1, some ⟨b2, o2, none⟩, c2, Af, cf, v, k1, k2, k3, ho, k6, k7, k8, k9, k10, k11, k12, k13⟩
 have HSs := hid hS
 have HF1 := hid hb
 have HG1 := hid hg
 have HX1 := hid hx
 have HZg := hid hzg
 have HZr := hid hzr
 have HBb := hid hbb
 have HB3 := hid hb3
 have HBr := hid hbr
 have Q9 := hid q9
 have Q10 := hid q10
 have Q11 := hid q11
 have Q12 := hid q12
 have mc3 := hss.cap
 have mx3 := hss.max
 have mcr := hzs.cap
 have mxr := hzs.max
 unfold maxLen at mx3 mxr
 clear hb hg hss hx hzg hzr H ho hz he hl hea hbb hrb q9 q10 q11 q12 hle hc3 hcr hzs hb3 hbr hal hS
 have m0 : (mdFT L n wide big b f).wide = wide := rfl
 have m1 : (mdFT L n wide big b f).big = big := rfl
 have m2 : (mdFT L n wide big b f).osabi = 0 := rfl
 have m3 : (mdFT L n wide big b f).abi = 0 := rfl
 have m4 : (mdFT L n wide big b f).typ = 0 := rfl
 have m5 : (mdFT L n wide big b f).mach = 0 := rfl
 have m6 : (mdFT L n wide big b f).flags = 0 := rfl
 have m7 : (mdFT L n wide big b f).entry = 0 := rfl
 have m10 : (mdFT L n wide big b f).str = 0 := rfl
 unfold mdC at HBy HJ HX1
 rw [m0, m1, m2, m3, m4, m5, m6, m7, m10] at HX1
 simp only [m0, m1, m2, m3, m4, m5, m6, m7, m10] at HBy HJ
 clear m0 m1 m2 m3 m4 m5 m6 m7 m10
 generalize mdFT L n wide big b f = md at *
 generalize allT L f n = all at *
 generalize nmT L n f = nm at *
 generalize atT_ L n f = at_ at *
 generalize hsq : nm.length = q at *
 clear hsq
 conv => arg 2; whnf
 apply wp_seq_k
 intro K hK
 have HK := hid hK
 clear hK
 go_wp2
 apply HK.out
 clear HK
 clear K
 apply wp_seq_k
 intro K hK
 have HK := hid hK
 clear hK
 go_wp2
 apply HK.out
 clear HK
 clear K
 apply wp_seq_k
 intro K hK
 have HK := hid hK
 clear hK
 go_wp2_with fail
 go_loopw [33, 34, 35] (fun fnd want i wr => ∃ (k : Nat) (A : Option Addr) (c v : Nat), k ≤ n + 1 ∧ i = .int .i64 k ∧ fnd = .slice A k c ∧ want = .int .i64 (v : Nat) ∧ SO wr W.heap.size 9 A k c (all.take k) ∧ Grow W wr ∧ WantT all s k v) (fun _ _ i _ => n + 1 - (intOf i).toNat)
 case atStart => exact ⟨0, none, 0, 0, Nat.zero_le _, rfl, rfl, rfl, World.ownsRow_nil _ _ _ _, Grow.refl _, want_zero all s⟩
 case round =>
  obtain ⟨k, A, c, v, hk, rfl, rfl, rfl, hso, hg, hwt⟩ := hrel
  have HSo := hid hso
  have HGw := hid hg
  have HWt := hid hwt
  clear hso hg hwt
  by_cases hlt : k < n + 1
  ·have HGk := hid (HGt.out k hlt)
   have R0 := hid (HRd.out k hlt)
   have N0 := hid (HNm.out k hlt)
   have hat := HAt.out k
   have HTs := hid (HTk.out k hlt)
   have hsz := HEa.out k
   have HHt : Hid (WantT all s k 0 → 1 ≤ k → all.getD k [] = s → WantT all s (k + 1) k) := hid fun h h1 h2 => want_hit h h1 h2
   have HMs : Hid ((1 ≤ k → all.getD k [] = s → v ≠ 0) → WantT all s (k + 1) v) := hid fun h => want_miss HWt.out h
   generalize at_.getD k 0 = p at HGk R0 hat
   generalize all.getD k [] = nk at HGk N0 HTs hsz HHt HMs
   have w0 : (0 : Int) ≤ (k : Int) := by omega
   have w1 : (k : Int) < (n : Int) + 1 := by omega
   have dk : decide ((k : Int) < (n : Int) + 1) = true := decide_eq_true (by omega)
   have zp : IntKind.u64.wrap (p : Int) = (p : Int) := by rw [IntKind.wrap_u64]; omega
   go_wp2_with fail
   refine wp_region_chain [(0, true), (1, true), (2, true), (3, true), (4, true), (5, true), (7, true), (8, true), (9, true), (10, true), (11, true), (12, true), (6, false), (13, false), (14, true), (15, true), (16, true), (17, true), (18, true)] (by kernel_rfl) (by kernel_rfl) (by kernel_rfl) ?_
   have HX2 := hid (HX1.out.grow (HGw.out.trans (Grow.of_drew wr)))
   have HW2 : Hid (Grow W wr.drew) := hid (HGw.out.trans (Grow.of_drew _))
   have HS2 := hid (HSo.out.keep (Grow.of_drew wr))
   clear HSo HGw
   generalize wr.drew = v0 at HX2 HW2 HS2 ⊢
   have r9 : ∀ W, Grow v0 W → W.cell? ⟨b2, o2 + 9, none⟩ = some (.int .i64 (-1)) := fun W hW => (Below.cell (HW2.out.trans hW) HBb.out).trans (by have := Q9.out; simpa using this)
   have r10 : ∀ W, Grow v0 W → W.cell? ⟨b2, o2 + 10, none⟩ = some (.int .u64 0) := fun W hW => (Below.cell (HW2.out.trans hW) HBb.out).trans (by have := Q10.out; simpa using this)
   have r11 : ∀ W, Grow v0 W → W.cell? ⟨b2, o2 + 11, none⟩ = some (.int .u64 (q : Nat)) := fun W hW => (Below.cell (HW2.out.trans hW) HBb.out).trans (by have := Q11.out; simpa using this)
   have r12 : ∀ W, Grow v0 W → W.cell? ⟨b2, o2 + 12, none⟩ = some (.slice Bq q eq) := fun W hW => (Below.cell (HW2.out.trans hW) HBb.out).trans (by have := Q12.out; simpa using this)
   have rr : ∀ W, Grow v0 W → W.cell? ⟨br, or + k * 6, none⟩ = some (.int .u32 (p : Nat)) := fun W hW => (Below.cell (HW2.out.trans hW) HBr.out).trans R0.out
   have x0 : ∀ W, Grow v0 W → W.cell? ⟨gx, 0, none⟩ = some (.bool wide) := fun W hW => (HX2.out.grow hW).at 0
   have x1 : ∀ W, Grow v0 W → W.cell? ⟨gx, 1, none⟩ = some (.bool big) := fun W hW => (HX2.out.grow hW).at 1
   have x2 : ∀ W, Grow v0 W → W.cell? ⟨gx, 2, none⟩ = some (.int .u8 0) := fun W hW => (HX2.out.grow hW).at 2
   have x3 : ∀ W, Grow v0 W → W.cell? ⟨gx, 3, none⟩ = some (.int .u8 0) := fun W hW => (HX2.out.grow hW).at 3
   have x4 : ∀ W, Grow v0 W → W.cell? ⟨gx, 4, none⟩ = some (.int .u16 0) := fun W hW => (HX2.out.grow hW).at 4
   have x5 : ∀ W, Grow v0 W → W.cell? ⟨gx, 5, none⟩ = some (.int .u16 0) := fun W hW => (HX2.out.grow hW).at 5
   have x6 : ∀ W, Grow v0 W → W.cell? ⟨gx, 6, none⟩ = some (.int .u32 0) := fun W hW => (HX2.out.grow hW).at 6
   have x7 : ∀ W, Grow v0 W → W.cell? ⟨gx, 7, none⟩ = some (.int .u64 0) := fun W hW => (HX2.out.grow hW).at 7
   have x8 : ∀ W, Grow v0 W → W.cell? ⟨gx, 8, none⟩ = some (.slice A1 0 c1) := fun W hW => (HX2.out.grow hW).at 8
   have x9 : ∀ W, Grow v0 W → W.cell? ⟨gx, 9, none⟩ = some (.slice (some ⟨b2, o2, none⟩) 3 c2) := fun W hW => (HX2.out.grow hW).at 9
   have x10 : ∀ W, Grow v0 W → W.cell? ⟨gx, 10, none⟩ = some (.int .i64 0) := fun W hW => (HX2.out.grow hW).at 10
   repeat ((first | (refine chain_take rfl (by rfl) ?_ (fun W hG => ?_) ?_; rotate_left; (go_simp; rfl)) | refine chain_skip rfl (by rfl) ?_); simp only [Act.put, List.setIfInBounds_toArray, List.set_cons_zero, List.set_cons_succ])
   clear r9 r10 r11 r12 rr x0 x1 x2 x3 x4 x5 x6 x7 x8 x9 x10
   refine chain_only rfl (by rfl) (fun K hK => ?_)
   go_simp
   refine (HBy.out _ HW2.out).mono ?_
   rintro e w3 ⟨Ao, co, rfl, hob, hg⟩
   refine hK _ _ hg ?_
   clear hK K
   have HOb := hid hob.rb
   have HW3 : Hid (Grow W w3) := hid (HW2.out.trans hg)
   have HS3 := hid (HS2.out.keep hg)
   clear hob hg HX2 HW2 HS2
   repeat ((first | (refine chain_take rfl (by rfl) ?_ (fun W hG => ?_) ?_; rotate_left; (go_simp; rfl)) | refine chain_skip rfl (by rfl) ?_); simp only [Act.put, List.setIfInBounds_toArray, List.set_cons_zero, List.set_cons_succ])
   refine chain_only rfl (by rfl) (fun K hK => ?_)
   go_simp
   refine (HGk.out Ao co _ HOb.out).mono ?_
   rintro e w4 ⟨rfl, rfl⟩
   refine hK _ _ (Grow.refl _) ?_
   clear hK K
   clear HOb HGk
   repeat ((first | (refine chain_take rfl (by rfl) ?_ (fun W hG => ?_) ?_; rotate_left; (go_simp; rfl)) | refine chain_skip rfl (by rfl) ?_); simp only [Act.put, List.setIfInBounds_toArray, List.set_cons_zero, List.set_cons_succ])
   refine chain_done ?_
   have HSL := hid (SS.lit w3 9 [nk] (show 1 ≤ maxLen by unfold maxLen; omega) (by intro s hs; simp only [List.mem_singleton] at hs; rw [hs]; exact hsz) #[.string (bstr nk)] rfl)
   have HOA := hid (HS3.out.keep (Grow.of_alloc w3 (.cells #[.string (bstr nk)] 9)))
   have HZA : Hid (Grow W (w3.alloc (.cells #[.string (bstr nk)] 9))) := hid (HW3.out.trans (Grow.of_alloc _ _))
   have n0 : w3.cell? ⟨b3, o3 + k, none⟩ = some (.string (bstr nk)) := (Below.cell HW3.out HB3.out).trans N0.out
   obtain ⟨X, hX⟩ : ∃ X, X = bstr nk := ⟨_, rfl⟩
   have HXn := hid hX
   rw [← hX] at HSL HOA HZA n0 ⊢
   clear hX
   have ex : (X.toList == X.toList) = true := beq_self_eq_true _
   go_wp2_with (at_builtin; refine wpList_appendN (w3.alloc (.cells #[.string X] 9)) rfl (.tmp 266) (.tmp 268) 24 rfl W.heap.size 9 (.string { data := #[] }) 16 Tryz.underlying24 (by kernel_rfl) rfl A k c _ rfl HOA.out (w3.alloc (.cells #[.string X] 9)).heap.size (some ⟨w3.heap.size, 0, none⟩) 1 1 _ rfl HSL.out (by omega) (by unfold maxLen; omega) (by omega) HZA.out.size ?_; intro A9 c9 w9 ho hb; refine Hid.out ?_)
   have HO9 : Hid (SO w9 W.heap.size 9 A9 (k + 1) c9 (all.take (k + 1))) := hid (by rw [HTs.out]; exact ho)
   have HG9 : Hid (Grow W w9) := hid (Below.trans HZA.out hb)
   clear ho hb HSL HOA HZA HTs n0 ex HW3 HS3
   refine hid ?_
   by_cases hes : nk = s
   ·have e1 := bstr_eq HXn.out HSs.out hes
    by_cases hk0 : k = 0
    ·have d0 : decide ((0 : Int) < (k : Int)) = false := decide_eq_false (by omega)
     have d0' : decide (0 < k) = false := decide_eq_false (by omega)
     have HW9 := hid (HMs.out fun h1 _ => by omega)
     subst hk0
     clear hes HHt HMs HWt
     go_wp2
     go_roundw
     case rel => exact ⟨0 + 1, A9, c9, v, by omega, by first | rfl | go_num | simp, rfl, rfl, HO9.out, HG9.out, HW9.out⟩
     case measure => simp [intOf]
    ·have d0 : decide ((0 : Int) < (k : Int)) = true := decide_eq_true (by omega)
     have d0' : decide (0 < k) = true := decide_eq_true (by omega)
     by_cases hv : v = 0
     ·subst hv
      have HW9 := hid (HHt.out HWt.out (by omega) hes)
      clear hes HHt HMs HWt hk0
      go_wp2
      go_roundw
      case rel => exact ⟨k + 1, A9, c9, k, by omega, by go_num, rfl, rfl, HO9.out, HG9.out, HW9.out⟩
      case measure => simp [intOf]; omega
     ·have dv : ((v : Int) == 0) = false := by simp; omega
      have HW9 := hid (HMs.out fun _ _ => hv)
      clear hes HHt HMs HWt hk0 hv
      go_wp2
      go_roundw
      case rel => exact ⟨k + 1, A9, c9, v, by omega, by go_num, rfl, rfl, HO9.out, HG9.out, HW9.out⟩
      case measure => simp [intOf]; omega
   ·have e1 := bstr_ne HXn.out HSs.out hes
    have HW9 := hid (HMs.out fun _ h => absurd h hes)
    clear hes HHt HMs HWt
    go_wp2
    go_roundw
    case rel => exact ⟨k + 1, A9, c9, v, by omega, by go_num, rfl, rfl, HO9.out, HG9.out, HW9.out⟩
    case measure => simp [intOf]; omega
  ·have e : k = n + 1 := by omega
   subst e
   have dk : decide ((n : Int) + 1 < (n : Int) + 1) = false := decide_eq_false (by omega)
   have dk' : decide (((n + 1 : Nat) : Int) < (n : Int) + 1) = false := decide_eq_false (by omega)
   have HSS := hid (by have := HSo.out; rw [HTa.out] at this; exact this.ss HEe.out : SS wr wr.heap.size A (n + 1) c all)
   go_wp2
   apply HK.out
   exact HJ.out A c v _ _ ⟨rfl, rfl, rfl, rfl, rfl⟩ (HF1.out.grow HGw.out) (HG1.out.trans HGw.out) rfl (HX1.out.grow HGw.out) (HZg.out.grow HGw.out) (HZr.out.grow HGw.out) rfl HSS.out rfl HWt.out
set_option maxRecDepth 100000
set_option linter.unusedVariables false
set_option maxHeartbeats 8000000 in
theorem tf_8 (n : Nat) (L : List Bs) (wide big : Bool) (S : ByteArray) (s : Bs) (hS : S = bstr s) (w : World) (hn : n ≤ 30) (hl : n = L.length) (he : ∀ s ∈ L, s.length ≤ 100) (hs : S.size ≤ 100) :
  ∀ a W, J27 L n wide big S w s a W → TfW w 27 a W := by
 rintro a W ⟨gf, b, f, gx, A1, c1, A2, c2, Af, cf, v, hf, hb, hg, ho, h29, hx, hzg, hzr, h33, hss, h34, hwt⟩
 obtain ⟨tv, rfl⟩ := tf_frame a hf.size hf.defers
 have hv29 : tv 29 = .pointer (some ⟨gx, 0, none⟩) := h29
 have hv33 : tv 33 = .slice Af (n + 1) cf := h33
 have hv34 : tv 34 = .int .i64 (v : Nat) := h34
 have hv3 : tv 3 = .string S := hf.t3
 have hv4 : tv 4 = .pointer (some ⟨gf, 0, none⟩) := hf.t4
 have hv9 : tv 9 = .bool true := hf.t9
 unfold TfW
 rw [hv29, hv33, hv34, hv3, hv4, hv9]
 clear hv29 hv33 hv34 hv3 hv4 hv9 hf
 clear h29 h33 h34
 obtain ⟨b2, o2, hA2, -⟩ := hzr.pos (by omega)
 subst hA2
 have hOk : (tblT L wide big b f).Ok := lawG_ok (by omega) (by omega) ho.b1 (by have := ho.b2; omega) (by omega) (by omega) (by omega) (by omega) (fun s hs => by have := he s hs; omega) (by rw [← hl]; exact ho.lt) (by rw [← hl]; exact ho.up)
 have hTn : (tblT L wide big b f).n = n := by rw [hl]; exact pickL_len L f L.length
 have hle : (tblT L wide big b f).B.length ≤ 10000 := by
  rw [Gn.len, hTn]
  have h1 : (tblT L wide big b f).words = 2 := rfl
  have h2 : (tblT L wide big b f).buckets = b := rfl
  have h4 := (tblT L wide big b f).z_pos
  have := ho.b2
  rw [h1, h2]
  omega
 have hall : ∀ i, i < n → (allT L f n).getD (1 + i) [] = (tblT L wide big b f).L.getD i [] := fun i hi => by
  rw [← pick_of hl, Nat.add_comm]
  rfl
 obtain ⟨Bq, eq, hbb, hrb, q9, q10, q11, q12⟩ := sec_at (k := 2) (ty := 1879048182) (o := (tblT L wide big b f).B) hzr (show 2 < 3 by omega) rfl
 have HBy := hid (fun W' (hW : Grow W W') => mBytes_sec (mdFT L n wide big b f) A1 c1 (some ⟨b2, o2, none⟩) 3 c2 1879048182 (tblT L wide big b f).B Bq eq W' rfl (hzg.grow hW) (hrb.grow hW) hle)
 unfold NewB at HBy
 have HLk := hid (fun A c W' (hW : Grow W W') (hr : RB W' W'.heap.size A (tblT L wide big b f).B.length c (tblT L wide big b f).B) =>
  (lookup_any (tblT L wide big b f) hOk A (tblT L wide big b f).B.length c Af (n + 1) cf (allT L f n) S s W' hr (hss.grow hW) (by rw [allT_len, hTn]; exact Nat.add_comm _ _) (fun i hi => hall i (by rw [← hTn]; exact hi)) hS (by unfold maxLen; omega) : Calls Tryz.prog 15 #[.slice A (tblT L wide big b f).B.length c, .slice Af (n + 1) cf, .agg #[.bool wide, .bool big], .string S] W' fun e w' => ∃ v : Nat, e = .returned (.tuple #[.int .i64 (v : Int), .bool (decide (0 < v))]) ∧ (tblT L wide big b f).Fst s v ∧ Grow W' w'))
 have HWa : Hid (∀ u, (tblT L wide big b f).Fst s u → u = v) := hid fun u hu => want_fst rfl (fun i hi => hall i (by rw [← hTn]; exact hi)) (by rw [hTn]; exact hwt) hu
 have HF1 := hid hb
 have HG1 := hid hg
 have HX1 := hid hx
 have HBb := hid hbb
 have Q9 := hid q9
 have Q10 := hid q10
 have Q11 := hid q11
 have Q12 := hid q12
 clear hb hg hss hx hzg hzr ho he hl hbb hrb q9 q10 q11 q12 hle hS hs hwt hall hTn hOk
 have m0 : (mdFT L n wide big b f).wide = wide := rfl
 have m1 : (mdFT L n wide big b f).big = big := rfl
 have m2 : (mdFT L n wide big b f).osabi = 0 := rfl
 have m3 : (mdFT L n wide big b f).abi = 0 := rfl
 have m4 : (mdFT L n wide big b f).typ = 0 := rfl
 have m5 : (mdFT L n wide big b f).mach = 0 := rfl
 have m6 : (mdFT L n wide big b f).flags = 0 := rfl
 have m7 : (mdFT L n wide big b f).entry = 0 := rfl
 have m10 : (mdFT L n wide big b f).str = 0 := rfl
 unfold mdC at HBy HX1
 rw [m0, m1, m2, m3, m4, m5, m6, m7, m10] at HX1
 simp only [m0, m1, m2, m3, m4, m5, m6, m7, m10] at HBy
 clear m0 m1 m2 m3 m4 m5 m6 m7 m10
 generalize (tblT L wide big b f).Fst s = Fs at *
 generalize (tblT L wide big b f).B = TB at *
 generalize hsq : TB.length = q at *
 clear hsq
 conv => arg 2; whnf
 apply wp_seq_k
 intro K hK
 have HK := hid hK
 clear hK
 refine wp_region_chain [(0, true), (1, true), (2, true), (3, true), (4, true), (5, true), (7, true), (8, true), (9, true), (6, false), (10, false), (11, true), (12, true), (13, true), (14, true), (15, true)] (by kernel_rfl) (by kernel_rfl) (by kernel_rfl) ?_
 have HF2 := hid HF1.out.drew
 have HX2 := hid HX1.out.drew
 have HW2 : Hid (Grow W W.drew) := hid (Grow.of_drew _)
 generalize W.drew = v0 at HF2 HX2 HW2 ⊢
 have f0 : ∀ W, Grow v0 W → W.cell? ⟨gf, 0, none⟩ = some (.bool wide) := fun W hW => (HF2.out.grow hW).at 0
 have f1 : ∀ W, Grow v0 W → W.cell? ⟨gf, 1, none⟩ = some (.bool big) := fun W hW => (HF2.out.grow hW).at 1
 have r9 : ∀ W, Grow v0 W → W.cell? ⟨b2, o2 + 26 + 9, none⟩ = some (.int .i64 (-1)) := fun W hW => (Below.cell (HW2.out.trans hW) HBb.out).trans Q9.out
 have r10 : ∀ W, Grow v0 W → W.cell? ⟨b2, o2 + 26 + 10, none⟩ = some (.int .u64 0) := fun W hW => (Below.cell (HW2.out.trans hW) HBb.out).trans Q10.out
 have r11 : ∀ W, Grow v0 W → W.cell? ⟨b2, o2 + 26 + 11, none⟩ = some (.int .u64 (q : Nat)) := fun W hW => (Below.cell (HW2.out.trans hW) HBb.out).trans Q11.out
 have r12 : ∀ W, Grow v0 W → W.cell? ⟨b2, o2 + 26 + 12, none⟩ = some (.slice Bq q eq) := fun W hW => (Below.cell (HW2.out.trans hW) HBb.out).trans Q12.out
 have x0 : ∀ W, Grow v0 W → W.cell? ⟨gx, 0, none⟩ = some (.bool wide) := fun W hW => (HX2.out.grow hW).at 0
 have x1 : ∀ W, Grow v0 W → W.cell? ⟨gx, 1, none⟩ = some (.bool big) := fun W hW => (HX2.out.grow hW).at 1
 have x2 : ∀ W, Grow v0 W → W.cell? ⟨gx, 2, none⟩ = some (.int .u8 0) := fun W hW => (HX2.out.grow hW).at 2
 have x3 : ∀ W, Grow v0 W → W.cell? ⟨gx, 3, none⟩ = some (.int .u8 0) := fun W hW => (HX2.out.grow hW).at 3
 have x4 : ∀ W, Grow v0 W → W.cell? ⟨gx, 4, none⟩ = some (.int .u16 0) := fun W hW => (HX2.out.grow hW).at 4
 have x5 : ∀ W, Grow v0 W → W.cell? ⟨gx, 5, none⟩ = some (.int .u16 0) := fun W hW => (HX2.out.grow hW).at 5
 have x6 : ∀ W, Grow v0 W → W.cell? ⟨gx, 6, none⟩ = some (.int .u32 0) := fun W hW => (HX2.out.grow hW).at 6
 have x7 : ∀ W, Grow v0 W → W.cell? ⟨gx, 7, none⟩ = some (.int .u64 0) := fun W hW => (HX2.out.grow hW).at 7
 have x8 : ∀ W, Grow v0 W → W.cell? ⟨gx, 8, none⟩ = some (.slice A1 0 c1) := fun W hW => (HX2.out.grow hW).at 8
 have x9 : ∀ W, Grow v0 W → W.cell? ⟨gx, 9, none⟩ = some (.slice (some ⟨b2, o2, none⟩) 3 c2) := fun W hW => (HX2.out.grow hW).at 9
 have x10 : ∀ W, Grow v0 W → W.cell? ⟨gx, 10, none⟩ = some (.int .i64 0) := fun W hW => (HX2.out.grow hW).at 10
 repeat ((first | (refine chain_take rfl (by rfl) ?_ (fun W hG => ?_) ?_; rotate_left; (go_simp; rfl)) | refine chain_skip rfl (by rfl) ?_); simp only [Act.put, List.setIfInBounds_toArray, List.set_cons_zero, List.set_cons_succ])
 clear r9 r10 r11 r12 x0 x1 x2 x3 x4 x5 x6 x7 x8 x9 x10 f0 f1
 refine chain_only rfl (by rfl) (fun K hK => ?_)
 go_simp
 refine (HBy.out _ HW2.out).mono ?_
 rintro e w3 ⟨Ao, co, rfl, hob, hg⟩
 refine hK _ _ hg ?_
 clear hK K
 have HOb := hid hob.rb
 have HW3 : Hid (Grow W w3) := hid (HW2.out.trans hg)
 clear hob hg HF2 HX2 HW2 HBy
 repeat ((first | (refine chain_take rfl (by rfl) ?_ (fun W hG => ?_) ?_; rotate_left; (go_simp; rfl)) | refine chain_skip rfl (by rfl) ?_); simp only [Act.put, List.setIfInBounds_toArray, List.set_cons_zero, List.set_cons_succ])
 refine chain_only rfl (by rfl) (fun K hK => ?_)
 go_simp
 refine (HLk.out Ao co _ HW3.out HOb.out).mono ?_
 rintro e w4 ⟨u, rfl, hu, hg⟩
 refine hK _ _ hg ?_
 clear hK K
 have huv := HWa.out u hu
 subst huv
 have HG4 : Hid (Grow w w4) := hid (HG1.out.trans (HW3.out.trans hg))
 clear hu hg HW3 HOb HLk HWa
 repeat ((first | (refine chain_take rfl (by rfl) ?_ (fun W hG => ?_) ?_; rotate_left; (go_simp; rfl)) | refine chain_skip rfl (by rfl) ?_); simp only [Act.put, List.setIfInBounds_toArray, List.set_cons_zero, List.set_cons_succ])
 refine chain_done ?_
 apply HK.out
 clear HK
 clear K
 by_cases h0 : u = 0
 ·subst h0
  go_wp2
  go_ret
  exact ⟨rfl, HG4.out⟩
 ·have d1 : decide (0 < u) = true := decide_eq_true (by omega)
  have d2 : decide ((0 : Int) < (u : Int)) = true := decide_eq_true (by omega)
  rw [d1]
  clear h0
  go_wp2
  go_ret
  exact ⟨rfl, HG4.out⟩
theorem topFinds_core (wide big : Bool) (A1 : Option Addr) (n c1 : Nat) (L : List Bs) (b0 : Int) (S : ByteArray) (s : Bs) (w : World) (h1 : SS w w.heap.size A1 n c1 L) (hS : S = bstr s) (hd : Door w) :
  Calls Tryz.prog 3 #[.agg #[.bool wide, .bool big], .slice A1 n c1, .int .i64 b0, .string S] w fun e w' => e = .returned (.bool true) ∧ Grow w w' :=
 tf_0 A1 n c1 L wide big b0 S w h1 hd fun hn he hs =>
  tf_1 A1 n c1 L wide big S w h1 hn he (tf_2 n L wide big S w hn h1.len he (tf_3 n L wide big S w hn h1.len he (tf_4 n L wide big S w hn h1.len he (tf_5 n L wide big S w hd hn h1.len he
   (tf_6 n L wide big S w hn h1.len he (tf_7 n L wide big S s hS w hn h1.len he (tf_8 n L wide big S s hS w hn h1.len he hs)))))))
theorem wf_i64 {n : Int} (h : (Lit.int .i64 n).wf = true) : -9223372036854775808 ≤ n ∧ n ≤ 9223372036854775807 := bounds_i64 h
end Go.Proofs.YtfbimboemahhhaaGreatDoor
namespace Go.Proofs.YtfbimboemahhhaaGreatDoor
open Go.Lib (hid)
open Go.ChangeShapes Go.WideShapes Go.RowKit Go.Joins Go.Deep
set_option maxRecDepth 100000
section
variable {H : Type} {enc : TypeId × Value → H} {w : World} {base : Nat} {spare : Nat → Bool} {held : Bool}
theorem open_i64 {r : Reach} {b0 : Nat} {v : Value} {d : DataW H} {p : List MemPlace} (hv : Value.okWide Tryz.prog w r b0 3 v) (h : DataW.Trod enc Tryz.prog w base spare held 3 v d p) : ∃ a : Int, v = .int .i64 a ∧ -9223372036854775808 ≤ a ∧ a ≤ 9223372036854775807 := by
 obtain ⟨x, rfl, _, _, hw⟩ := open_int Tryz.underlying3 hv h
 exact ⟨x, rfl, wf_i64 hw⟩
end
end Go.Proofs.YtfbimboemahhhaaGreatDoor
namespace Go.Proofs.YtfbimboemahhhaaGreatDoor
open Go.Lib (hid)
open Go.ChangeShapes Go.WideShapes Go.RowKit
set_option maxRecDepth 100000
section
variable {H : Type} {enc : TypeId × Value → H} {w : World} {base : Nat} {held : Bool}
theorem open_names {b0 : Nat} {r : Reach} {v : Value} {d : DataW H} {p : List MemPlace} (hv : Value.okWide Tryz.prog w r b0 24 v) (h : DataW.Trod enc Tryz.prog w base (fun _ => true) held 24 v d p) :
  ∃ (A : Option Addr) (n c : Nat) (L : List Bs), v = .slice A n c ∧ SS w w.heap.size A n c L := by
 obtain ⟨A, n, c, rfl⟩ := okWide_slice Tryz.underlying24 hv
 obtain ⟨fuel, hf⟩ := h
 rcases open_strings Tryz.underlying24 Tryz.underlying9 (by kernel_rfl) hf with ⟨hcs, _⟩ | ⟨a, len', cap', ss, hcs, _, hl, hm, hz, hx, hcell, hws⟩
 ·simp [Value.cells] at hcs
  obtain ⟨rfl, rfl, rfl⟩ := hcs
  exact ⟨none, 0, 0, [], rfl, rfl, Nat.le_refl _, Nat.zero_le _, fun s hs => absurd hs (by simp), fun h => absurd h (by omega)⟩
 ·simp [Value.cells] at hcs
  obtain ⟨rfl, rfl, rfl⟩ := hcs
  simp only [if_true] at hz
  refine ⟨some a, n, c, (ss.take n).map fun s => s.data.toList, rfl, by simp; omega, hl, hm, fun s hs => ?_, fun hp => ?_⟩
  ·obtain ⟨S, hS, rfl⟩ := List.mem_map.1 hs
   have := hws S (List.mem_of_mem_take hS)
   have e : S.size = S.data.toList.length := rfl
   rw [← e]
   exact this
  ·obtain ⟨b, off, spot⟩ := a
   have h0 := hcell 0 (by omega)
   have hspot : spot = none := by simpa [Addr.add] using World.cell?_spot h0
   subst hspot
   refine ⟨b, off, rfl, ?_, fun j hj => ?_⟩
   ·rcases Nat.lt_or_ge b w.heap.size with h | h
    ·exact h
    ·simp [Addr.add, World.cell?, Array.getElem?_eq_none h] at h0
   ·have hj' : j < n := by simp at hj; omega
    have e2 : (⟨b, off, none⟩ : Addr).add j = ⟨b, off + j, none⟩ := by unfold Addr.add; split <;> simp_all
    rw [← e2, hcell j (by omega)]
    have hjz : j < ss.length := by omega
    congr 2
    rw [List.getD_eq_getElem?_getD, List.getElem?_eq_getElem hjz, List.getD_eq_getElem?_getD, List.getElem?_map, List.getElem?_take_of_lt hj', List.getElem?_eq_getElem hjz]
    simp [bstr_of]
end
end Go.Proofs.YtfbimboemahhhaaGreatDoor
namespace Go.Proofs.YtfbimboemahhhaaGreatDoor
open Go.Lib (hid)
open Go.ChangeShapes Go.WideShapes Go.RowKit Go.Joins Go.Deep
set_option maxRecDepth 100000
section
variable {H : Type} {enc : TypeId × Value → H} {w : World} {base : Nat} {spare : Nat → Bool} {held : Bool}
theorem form_of_cells {n : Nat} {c0 c1 : Value} {y : DataW H × List MemPlace} (hf : DataW.trod enc Tryz.prog w base spare held n 23 [c0, c1] = some y) : ∃ wide big : Bool, c0 = .bool wide ∧ c1 = .bool big := by
 obtain ⟨x0, x1, m, _, _, k0, k1⟩ := trod_struct2 Tryz.underlying23 hf
 have k0' : DataW.trod enc Tryz.prog w base spare held m 4 [c0] = some x0 := by
  simpa [show Program.cellsOf Tryz.prog 4 = 1 by kernel_rfl] using k0
 have k1' : DataW.trod enc Tryz.prog w base spare held m 4 [c1] = some x1 := by
  simpa [show Program.cellsOf Tryz.prog 4 = 1 by kernel_rfl] using k1
 obtain ⟨wide, e0, _⟩ := DataW.trod_bool Tryz.underlying4 k0'
 obtain ⟨big, e1, _⟩ := DataW.trod_bool Tryz.underlying4 k1'
 injection e0 with e0
 injection e1 with e1
 exact ⟨wide, big, e0, e1⟩
theorem open_form {r : Reach} {b0 : Nat} {v : Value} {d : DataW H} {p : List MemPlace} (hv : Value.okWide Tryz.prog w r b0 23 v) (h : DataW.Trod enc Tryz.prog w base spare held 23 v d p) :
  ∃ wide big : Bool, v = .agg #[.bool wide, .bool big] := by
 obtain ⟨cs, rfl, hsz⟩ := okWide_struct Tryz.underlying23 hv
 obtain ⟨c0, c1, rfl⟩ := arr2 (hsz.trans (show Program.cellsOf Tryz.prog 23 = 2 by kernel_rfl))
 obtain ⟨fuel, hf⟩ := h
 obtain ⟨wide, big, rfl, rfl⟩ := form_of_cells hf
 exact ⟨wide, big, rfl⟩
end
set_option maxRecDepth 100000
def Light {H : Type} (t : TypeId) (d : DataW H) : Prop := ∀ q ∈ d.weights Tryz.prog t, q ≤ reachBytes
section
variable {H : Type} {enc : TypeId × Value → H} {w : World} {base : Nat} {held : Bool}
end
end Go.Proofs.YtfbimboemahhhaaGreatDoor
