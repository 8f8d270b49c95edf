/-
  Several texts in one: The walk of TopFinds, part 1; The walk of TopFinds, part 2; The walk of TopFinds, part 3; Rows that a call cloned.
-/
import Derived.Test.YtfbimboemahhhaaGreatDoorTfG38
import Derived.Test.YtfbimboemahhhaaGreatDoorTfG22
import Derived.Test.YtfbimboemahhhaaGreatDoorTfG4
namespace Go.Proofs.YtfbimboemahhhaaGreatDoor
open Go.Lib (hid)
open Go.RowKit
set_option maxRecDepth 100000
set_option linter.unusedVariables false
theorem SO.lit1 (w : World) (base : Nat) (t : TypeId) (hb : base ≤ w.heap.size) (nm : Bs) : SO (w.alloc (.cells #[.string (bstr nm)] t)) base t (some ⟨w.heap.size, 0, none⟩) 1 1 [nm] :=
 ⟨by simp, .inr ⟨w.heap.size, 1, #[.string (bstr nm)], rfl, hb, heap_alloc_new w _, Nat.le_refl _, by unfold maxLen; omega, by simp, by simp [nam]⟩⟩
set_option maxHeartbeats 8000000 in
theorem tf_1 (A1 : Option Addr) (n c1 : Nat) (L : List Bs) (wide big : Bool) (S : ByteArray) (w : World) (h1 : SS w w.heap.size A1 n c1 L) (hn : n ≤ 30) (he : ∀ s ∈ L, s.length ≤ 100)
  (H : ∀ a W, J9 L n wide big S w a W → TfW w 9 a W) : ∀ a W, J4 n wide big S w A1 c1 a W → TfW w 4 a W := by
 rintro a W ⟨gf, b0, hf, hb, hg, h1', h2'⟩
 obtain ⟨tv, rfl⟩ := tf_frame a hf.size hf.defers
 have hv1 : tv 1 = .slice A1 n c1 := h1'
 have hv2 : tv 2 = .int .i64 b0 := h2'
 have hv3 : tv 3 = .string S := hf.t3
 have hv4 : tv 4 = .pointer (some ⟨gf, 0, none⟩) := hf.t4
 have hv9 : tv 9 = .bool true := hf.t9
 unfold TfW
 rw [hv1, hv2, hv3, hv4, hv9]
 clear hv1 hv2 hv3 hv4 hv9 hf
 clear h1' h2'
 have HL := hid h1
 have HN := hid h1.len
 have HE := hid he
 have hc := h1.cap
 have hm := h1.max
 unfold maxLen at hm
 have HH := hid H
 have HF1 := hid hb
 have HG1 := hid hg
 clear h1 H hb hg he
 conv => arg 2; whnf
 apply wp_seq_k
 intro K hK
 have HK := hid hK
 clear hK
 go_wp2_with fail
 refine (pick_by b0 20 _ (by omega) (by omega) : Calls Tryz.prog 5 #[.int .i64 b0, .int .i64 20] _ _).mono ?_
 rintro e w' ⟨kb, hkb, rfl, rfl⟩
 obtain ⟨b, hb⟩ : ∃ b, b = 1 + kb := ⟨_, rfl⟩
 have y1 : IntKind.i64.wrap (1 + (kb : Int)) = (b : Int) := by rw [IntKind.wrap_i64]; omega
 have HBn : Hid (1 ≤ b ∧ b ≤ 20) := hid (by omega)
 clear hb hkb
 go_wp2
 clear y1
 apply HK.out
 clear HK
 clear K
 apply wp_seq_k
 intro K hK
 have HK := hid hK
 clear hK
 go_wp2_with fail
 refine (order_any A1 n c1 b L W ((HL.out.belowAt HG1.out (Nat.le_refl _)).more HG1.out.size) (by omega) HBn.out.1 (by have := HBn.out.2; omega)).mono ?_
 rintro e w3 ⟨go, f, rfl, hgo, hrow, hfl, hrise, hg⟩
 rw [← HN.out] at hrow hfl hrise ⊢
 have HO3 := hid hrow
 have HFl := hid hfl
 have HRi := hid hrise
 have HF3 := hid (HF1.out.grow hg)
 have HG3 : Hid (Grow w w3) := hid (HG1.out.trans hg)
 clear hgo hrow hfl hrise hg HF1 HG1
 go_wp2
 apply HK.out
 clear HK
 clear K
 have z4 : ((n : Int) != (n : Int)) = false := by simp
 apply wp_seq_k
 intro K hK
 have HK := hid hK
 clear hK
 go_wp2
 apply HK.out
 clear HK
 clear K
 clear z4
 apply wp_seq_k
 intro K hK
 have HK := hid hK
 clear hK
 go_wp2
 have HS4 := hid (SO.lit1 w3 w3.heap.size 9 (Nat.le_refl _) [])
 have e0 : bstr [] = { data := #[] } := rfl
 rw [e0] at HS4
 clear e0
 have hbel : Below w3.heap.size w3 (w3.alloc (.cells #[.string { data := #[] }] 9)) := (Below.refl _ _).alloc (Nat.le_refl _) _
 have HBd : Hid (go < w3.heap.size ∧ gf < w3.heap.size ∧ w.heap.size ≤ w3.heap.size) := hid ⟨HO3.out.lt, HF3.out.lt, HG3.out.size⟩
 have HGw : Hid (∀ W, Below w3.heap.size w3 W → Grow w W) := hid fun W hW => HG3.out.trans' (hW.mono HBd.out.2.2)
 have HZ4 : Hid (w3.heap.size ≤ (w3.alloc (.cells #[.string { data := #[] }] 9)).heap.size) := hid hbel.size
 have HD4 := hid hbel
 clear hbel
 obtain ⟨B0, hB0⟩ : ∃ B, B = w3.heap.size := ⟨_, rfl⟩
 rw [← hB0] at HS4 HBd HGw HZ4 HD4 ⊢
 clear hB0
 generalize w3.alloc (.cells #[.string { data := #[] }] 9) = w4 at HS4 HZ4 HD4 ⊢
 apply HK.out
 clear HK
 clear K
 apply wp_seq_k
 intro K hK
 have HK := hid hK
 clear hK
 go_wp2_with fail
 go_loopw [12, 13] (fun a i wr => ∃ (k : Nat) (A : Option Addr) (c : Nat), k ≤ n ∧ i = .int .i64 k ∧ a = .slice A (k + 1) c ∧ SO wr B0 9 A (k + 1) c (allT L f k) ∧ Below B0 w3 wr ∧ B0 ≤ wr.heap.size) (fun _ i _ => n - (intOf i).toNat)
 case atStart => exact ⟨0, _, _, Nat.zero_le _, rfl, rfl, HS4.out, HD4.out, HZ4.out⟩
 case round =>
  obtain ⟨k, A, c, hk, rfl, rfl, ho, hbel, hsz⟩ := hrel
  have HO := hid ho
  have HD := hid hbel
  have HZ := hid hsz
  clear HS4 HD4 HZ4 ho hbel hsz
  by_cases hlt : k < n
  ·have q1 : wr.cell? ⟨go, k, none⟩ = some (.int .i64 (f k : Int)) := (rows_below HO3.out HD.out HBd.out.1).cell hlt
   have hfk := HFl.out k hlt
   obtain ⟨bL, oL, hA1, hbL, hcell⟩ := (HL.out.belowAt (HGw.out _ HD.out) (Nat.le_refl _)).pos (by omega)
   subst hA1
   have q2 := hcell (f k) (by have := HN.out; omega)
   have hsz2 : (L.getD (f k) []).length ≤ maxLen := HL.out.size _
   obtain ⟨nm, hnm⟩ : ∃ nm, nm = L.getD (f k) [] := ⟨_, rfl⟩
   have HPk : Hid (allT L f (k + 1) = allT L f k ++ [nm]) := hid (by rw [allT_succ, hnm])
   rw [← hnm] at q2 hsz2
   clear hnm
   have HSL := hid (SS.lit wr 9 [nm] (show 1 ≤ maxLen by unfold maxLen; omega) (by intro s hs; simp only [List.mem_singleton] at hs; rw [hs]; exact hsz2) #[.string (bstr nm)] rfl)
   have HOA := hid (HO.out.keep (Grow.of_alloc wr (.cells #[.string (bstr nm)] 9)))
   have HZA : Hid (B0 ≤ (wr.alloc (.cells #[.string (bstr nm)] 9)).heap.size) := hid (by have := HZ.out; simp; omega)
   have HDA : Hid (Below B0 w3 (wr.alloc (.cells #[.string (bstr nm)] 9))) := hid (HD.out.alloc HZ.out _)
   generalize bstr nm = N at q2 HSL HOA HZA HDA
   generalize f k = fk at q1 q2 hfk
   have y1 : decide ((fk : Int) < 0) = false := decide_eq_false (by omega)
   have y2 : decide ((n : Int) ≤ (fk : Int)) = false := decide_eq_false (by omega)
   have y3 : (fk : Int) < (n : Int) := by omega
   have dk : decide ((k : Int) < (n : Int)) = true := decide_eq_true (by omega)
   clear hcell hbL hsz2
   go_wp2_with (at_builtin; refine wpList_appendN (wr.alloc (.cells #[.string N] 9)) rfl (.tmp 95) (.tmp 103) 24 rfl B0 9 (.string { data := #[] }) 16 Tryz.underlying24 (by kernel_rfl) rfl A (k + 1) c _ rfl HOA.out (wr.alloc (.cells #[.string N] 9)).heap.size (some ⟨wr.heap.size, 0, none⟩) 1 1 _ rfl HSL.out (by omega) (by unfold maxLen; omega) (by omega) HZA.out ?_)
   intro A5 c5 w5 ho hb
   have HO5 : Hid (SO w5 B0 9 A5 (k + 1 + 1) c5 (allT L f (k + 1))) := hid (by rw [HPk.out]; exact ho)
   have HD5 := hid (HDA.out.trans hb)
   have HZ5 := hid (Nat.le_trans HZA.out hb.size)
   clear ho hb q1 q2 y1 y2 y3 HSL HOA HZA HDA HPk
   go_wp2
   go_roundw
   case rel => exact ⟨k + 1, A5, c5, by omega, by go_num, rfl, HO5.out, HD5.out, HZ5.out⟩
   case measure => simp [intOf]; omega
  ·have e : k = n := by omega
   subst e
   have dk : decide ((k : Int) < (k : Int)) = false := decide_eq_false (by omega)
   have hss := HO.out.ss (allT_each (m := maxLen) (by rw [← HN.out]; exact HFl.out) (fun s hs => Nat.le_trans (HE.out s hs) (by decide)))
   have HSS := hid hss
   have HGf := hid (HGw.out _ HD.out)
   have HFf := hid (HF3.out.below HD.out HBd.out.2.1)
   clear hss
   go_wp2
   apply HK.out
   exact HH.out _ _ ⟨gf, b, f, A, c, ⟨rfl, rfl, rfl, rfl, rfl⟩, HFf.out, HGf.out, ⟨HBn.out.1, HBn.out.2, HFl.out, HRi.out⟩, rfl, rfl, HSS.out⟩
set_option maxRecDepth 100000
set_option linter.unusedVariables false
theorem atT_lt {L : List Bs} {f : Nat → Nat} {n : Nat} (hn : n ≤ 30) (he : ∀ s ∈ allT L f n, s.length ≤ 100) (i : Nat) : (atT_ L n f).getD i 0 < 4294967296 ∧ (nmT L n f).length ≤ 5000 := by
 have h1 := tab_le he (n + 1)
 have h2 : (n + 1) * (100 + 1) ≤ 31 * 101 := Nat.mul_le_mul_right _ (by omega)
 have h3 : (nmT L n f).length ≤ 5000 := by unfold nmT; omega
 refine ⟨?_, h3⟩
 rw [List.getD_eq_getElem?_getD]
 cases hg : (atT_ L n f)[i]? with
 | none => simp
 | some p =>
  have := ats_lt (List.mem_of_getElem? hg)
  simp only [Option.getD_some]
  unfold nmT at h3
  omega
set_option maxHeartbeats 8000000 in
theorem tf_2 (n : Nat) (L : List Bs) (wide big : Bool) (S : ByteArray) (w : World) (hn : n ≤ 30) (hl : n = L.length) (he : ∀ s ∈ L, s.length ≤ 100)
  (H : ∀ a W, J14 L n wide big S w a W → TfW w 14 a W) : ∀ a W, J9 L n wide big S w a W → TfW w 9 a W := by
 rintro a W ⟨gf, b, f, A3, c3, hf, hb, hg, ho, h2', h12, hss⟩
 obtain ⟨tv, rfl⟩ := tf_frame a hf.size hf.defers
 have hv2 : tv 2 = .int .i64 (b : Nat) := h2'
 have hv12 : tv 12 = .slice A3 (n + 1) c3 := h12
 have hv3 : tv 3 = .string S := hf.t3
 have hv4 : tv 4 = .pointer (some ⟨gf, 0, none⟩) := hf.t4
 have hv9 : tv 9 = .bool true := hf.t9
 unfold TfW
 rw [hv2, hv12, hv3, hv4, hv9]
 clear hv2 hv12 hv3 hv4 hv9 hf
 clear h2' h12
 have hea : ∀ s ∈ allT L f n, s.length ≤ 100 := allT_each (by rw [← hl]; exact ho.lt) he
 have HE := hid hea
 have HO := hid ho
 have HH := hid H
 have HF1 := hid hb
 have HG1 := hid hg
 have HS1 := hid hss
 have hc3 := hss.cap
 have hm3 := hss.max
 unfold maxLen at hm3
 have HB := hid (strBuild_any A3 (n + 1) c3 (allT L f n) W hss (by rw [allT_len]; omega) (fun s hs => by have := hea s hs; omega))
 unfold BuiltR at HB
 rw [allT_len] at HB
 have HAt := hid (fun i => (atT_lt hn hea i).1)
 have HAl : Hid ((atT_ L n f).length = n + 1) := hid (ats_len (n + 1))
 have HJ : Hid (∀ gf A3 c3 An cn Ay cy a W, TfF gf S a → Blk W gf 23 #[.bool wide, .bool big] → Grow w W → areN (allT L f n) = true → a.tmps.getD 2 undef = .int .i64 (b : Nat) → a.tmps.getD 12 undef = .slice A3 (n + 1) c3 → SS W W.heap.size A3 (n + 1) c3 (allT L f n) →
  a.tmps.getD 14 undef = .slice An (nmT L n f).length cn → RB W W.heap.size An (nmT L n f).length cn (nmT L n f) → a.tmps.getD 17 undef = .slice Ay (n + 1) cy → ZS W W.heap.size 6 Ay (n + 1) cy ((sysT (atT_ L n f) (n + 1)).map Sy.C) → TfW w 14 a W) :=
  hid fun gf A3 c3 An cn Ay cy a W k1 k2 k3 k4 k5 k6 k7 k8 k9 k10 k11 => HH.out a W ⟨gf, b, f, A3, c3, An, cn, Ay, cy, k1, k2, k3, HO.out, k4, k5, k6, k7, k8, k9, k10, k11⟩
 change Hid (Calls Tryz.prog 7 #[.slice A3 (n + 1) c3] W fun e w' => Grow W w' ∧ ((areN (allT L f n) = false ∧ e = .returned (.tuple #[.slice none 0 0, .slice none 0 0, .iface 86 (.int .i64 9)])) ∨
  (areN (allT L f n) = true ∧ ∃ A c A2 c2, e = .returned (.tuple #[.slice A (nmT L n f).length c, .slice A2 (n + 1) c2, .nilIface]) ∧ RB w' w'.heap.size A (nmT L n f).length c (nmT L n f) ∧
   NS w' w'.heap.size .u64 A2 (n + 1) c2 (atT_ L n f)))) at HB
 clear hea ho hb hg hss H HH HE he hl
 generalize allT L f n = all at *
 generalize nmT L n f = nm at *
 generalize atT_ L n f = at_ at *
 generalize hnl : nm.length = q at HB HJ
 conv => arg 2; whnf
 apply wp_seq_k
 intro K hK
 have HK := hid hK
 clear hK
 go_wp2_with fail
 refine HB.out.mono ?_
 rintro e w2 ⟨hg, ⟨hz, rfl⟩ | ⟨hz, Aa, ca, A2, c2, rfl, hrb, hns⟩⟩
 ·have HG2 : Hid (Grow w w2) := hid (HG1.out.trans hg)
  clear hg hz HJ
  go_wp2
  apply HK.out
  go_wp2
  go_ret
  exact ⟨rfl, HG2.out⟩
 have HF2 := hid (HF1.out.grow hg)
 have HG2 : Hid (Grow w w2) := hid (HG1.out.trans hg)
 have HS2 := hid (HS1.out.grow hg)
 have HRb := hid hrb
 have HNs := hid hns
 have HZz := hid hz
 have hc2 := hns.cap
 have hm2 := hns.max
 unfold maxLen at hm2
 clear hg hz hrb hns HF1 HG1 HS1 HB
 go_wp2
 apply HK.out
 clear HK
 clear K
 apply wp_seq_k
 intro K hK
 have HK := hid hK
 clear hK
 go_wp2
 apply HK.out
 clear HK
 clear K
 have z4 : (((n : Int) + 1) != ((n : Int) + 1)) = false := by simp
 have z5 : (((n + 1 : Nat) : Int) != ((n + 1 : Nat) : Int)) = false := by simp
 apply wp_seq_k
 intro K hK
 have HK := hid hK
 clear hK
 go_wp2
 apply HK.out
 clear HK
 clear K
 clear z4 z5
 apply wp_seq_k
 intro K hK
 have HK := hid hK
 clear hK
 go_wp2
 apply HK.out
 clear HK
 clear K
 apply wp_seq_k
 intro K hK
 have HK := hid hK
 clear hK
 go_wp2_with fail
 go_loopw [17, 18] (fun s i wr => ∃ (k : Nat) (A : Option Addr) (c : Nat), k ≤ n + 1 ∧ i = .int .i64 k ∧ s = .slice A k c ∧ ZO wr w2.heap.size 40 6 A k c ((sysT at_ k).map Sy.C) ∧ Grow w2 wr) (fun _ i _ => n + 1 - (intOf i).toNat)
 case atStart => exact ⟨0, none, 0, Nat.zero_le _, rfl, rfl, ZO.nil, Grow.refl _⟩
 case round =>
  obtain ⟨k, A, c, hk, rfl, rfl, hzo, hg⟩ := hrel
  have HZo := hid hzo
  have HGw := hid hg
  clear hzo hg
  by_cases hlt : k < n + 1
  ·have hkl : k < at_.length := by rw [HAl.out]; exact hlt
   obtain ⟨bA, oA, hA2, hbA, hcell⟩ := HNs.out.pos (by omega)
   subst hA2
   have q1 := (Below.cell HGw.out hbA).trans (hcell k hkl)
   have hsm := HAt.out k
   have hgd : at_.getD k 0 = at_[k] := by rw [List.getD_eq_getElem?_getD, List.getElem?_eq_getElem hkl]; rfl
   have HRow : Hid ((sysT at_ (k + 1)).map Sy.C = (sysT at_ k).map Sy.C ++ [#[.int .u32 (at_[k] : Int), .int .u8 0, .int .u8 0, .int .u16 0, .int .u64 (k : Int), .int .u64 0]]) := hid (by rw [sysT_succ, List.map_append, ← hgd]; rfl)
   rw [hgd] at hsm
   generalize at_[k] = p at q1 hsm HRow
   clear hcell hbA hkl hgd
   have w0 : (0 : Int) ≤ (k : Int) := by omega
   have w1 : (k : Int) < (n : Int) + 1 := by omega
   have dk : decide ((k : Int) < (n : Int) + 1) = true := decide_eq_true (by omega)
   have y1 : IntKind.u32.wrap (p : Int) = (p : Int) := by rw [IntKind.wrap_u32]; omega
   have y2 : IntKind.u64.wrap (k : Int) = (k : Int) := by rw [IntKind.wrap_u64]; omega
   go_wp2_with (at_builtin; refine wpList_appendZ _ rfl (.tmp 125) (.tmp 134) 35 rfl w2.heap.size 40 (.agg #[.int .u32 0, .int .u8 0, .int .u8 0, .int .u16 0, .int .u64 0, .int .u64 0]) 6 24 Tryz.underlying35 (by kernel_rfl) rfl (by omega) A k c _ rfl (HZo.out.keep (Grow.of_alloc _ _)) _ _ #[.int .u32 (p : Int), .int .u8 0, .int .u8 0, .int .u16 0, .int .u64 (k : Int), .int .u64 0] rfl (Blk.new _ _ _) rfl (by simp [Value.oneCell']) (by unfold maxLen; omega) (by omega) (HGw.out.trans (Grow.of_alloc _ _)).size ?_; intro A5 c5 w9 ho9 hg9 _; refine Hid.out ?_)
   have HZ9 : Hid (ZO w9 w2.heap.size 40 6 A5 (k + 1) c5 ((sysT at_ (k + 1)).map Sy.C)) := hid (by rw [HRow.out]; exact ho9)
   have HG9 : Hid (Grow w2 w9) := hid (Below.trans (HGw.out.trans (Grow.of_alloc _ _)) ((Below.refl _ _).grown hg9 (HGw.out.trans (Grow.of_alloc _ _)).size fun q hq => HZo.out.ge hq))
   clear ho9 hg9 HZo HGw HRow q1
   refine hid ?_
   go_wp2
   go_roundw
   case rel => exact ⟨k + 1, A5, c5, by omega, by go_num, rfl, HZ9.out, HG9.out⟩
   case measure => simp [intOf]; omega
  ·have e : k = n + 1 := by omega
   subst e
   have dk : decide (((n + 1 : Nat) : Int) < (n : Int) + 1) = false := decide_eq_false (by omega)
   have dk' : decide ((n : Int) + 1 < (n : Int) + 1) = false := decide_eq_false (by omega)
   go_wp2
   apply HK.out
   exact HJ.out gf A3 c3 Aa ca A c _ _ ⟨rfl, rfl, rfl, rfl, rfl⟩ (HF2.out.grow HGw.out) (HG2.out.trans HGw.out) HZz.out rfl rfl (HS2.out.grow HGw.out) rfl (HRb.out.grow HGw.out) rfl HZo.out.zs
set_option maxRecDepth 100000
set_option linter.unusedVariables false
theorem pick_of {L : List Bs} {f : Nat → Nat} {n : Nat} (hl : n = L.length) (wide big : Bool) (b : Nat) : pickL L f n = (tblT L wide big b f).L := by subst hl; rfl
set_option maxHeartbeats 8000000 in
theorem tf_3 (n : Nat) (L : List Bs) (wide big : Bool) (S : ByteArray) (w : World) (hn : n ≤ 30) (hl : n = L.length) (he : ∀ s ∈ L, s.length ≤ 100)
  (H : ∀ a W, J17 L n wide big S w a W → TfW w 17 a W) : ∀ a W, J14 L n wide big S w a W → TfW w 14 a W := by
 rintro a W ⟨gf, b, f, A3, c3, An, cn, Ay, cy, hf, hb, hg, ho, hz, h2', h12, hss, h14, hrn, h17, hzs⟩
 obtain ⟨tv, rfl⟩ := tf_frame a hf.size hf.defers
 have hv2 : tv 2 = .int .i64 (b : Nat) := h2'
 have hv12 : tv 12 = .slice A3 (n + 1) c3 := h12
 have hv14 : tv 14 = .slice An (nmT L n f).length cn := h14
 have hv17 : tv 17 = .slice Ay (n + 1) cy := h17
 have hv3 : tv 3 = .string S := hf.t3
 have hv4 : tv 4 = .pointer (some ⟨gf, 0, none⟩) := hf.t4
 have hv9 : tv 9 = .bool true := hf.t9
 unfold TfW
 rw [hv2, hv12, hv14, hv17, hv3, hv4, hv9]
 clear hv2 hv12 hv14 hv17 hv3 hv4 hv9 hf
 clear h2' h12 h14 h17
 have hea : ∀ s ∈ allT L f n, s.length ≤ 100 := allT_each (by rw [← hl]; exact ho.lt) he
 obtain ⟨ba, oa, hA, -, -⟩ := hss.pos (by omega)
 subst hA
 have hOk : (tblT L wide big b f).Ok := lawG_ok (by omega) (by omega) ho.b1 (by have := ho.b2; omega) (by omega) (by omega) (by omega) (by omega) (fun s hs => by have := he s hs; omega) (by rw [← hl]; exact ho.lt) (by rw [← hl]; exact ho.up)
 have HBu : Hid (∀ (A : Option Addr) (c : Nat) (W : World), SS W W.heap.size A n c (tblT L wide big b f).L → Calls Tryz.prog 8 #[.agg #[.int .i64 1, .int .i64 (b : Int), .int .i64 2, .int .i64 6], .slice A n c, .agg #[.bool wide, .bool big]] W fun e w' =>
   ∃ A2 n2 c2, e = .returned (.tuple #[.slice A2 n2 c2, .nilIface]) ∧ RB w' w'.heap.size A2 n2 c2 (tblT L wide big b f).B ∧ Grow W w') := hid fun A c W h => build_any (tblT L wide big b f) hOk A n c W h
 have hdrop := hss.drop (p := 1) (by omega)
 have e1 : (allT L f n).drop 1 = (tblT L wide big b f).L := by rw [← pick_of hl]; rfl
 rw [e1, Nat.add_sub_cancel] at hdrop
 have hcut : ∀ W, (Instr.slice 24 (.slice (some ⟨ba, oa, none⟩) (n + 1) c3) (some (.int .i64 1)) none none).run Tryz.prog W = .ok (.slice (some (cutA ⟨ba, oa, none⟩ c3 1)) n (c3 - 1) ) W := fun W => by
  have := run_cut_l (P := Tryz.prog) 24 Tryz.underlying24 (fun W => by kernel_rfl) ⟨ba, oa, none⟩ (n + 1) c3 .i64 1 (by omega) W
  simpa using this
 have HD1 := hid hdrop
 generalize cutA ⟨ba, oa, none⟩ c3 1 = cu at hcut HD1
 generalize c3 - 1 = cc at hcut HD1
 have hfit := sysT_fit wide (fun i => (atT_lt hn hea i).1) (n + 1) (by omega)
 have HY := hid (fun W (h : ZS W W.heap.size 6 Ay (n + 1) cy ((sysT (atT_ L n f) (n + 1)).map Sy.C)) => yPut_any Ay (n + 1) cy (sysT (atT_ L n f) (n + 1)) (sysT_ok (fun i => (atT_lt hn hea i).1) (by omega)) (by rw [sysT_len]; omega) wide big W h)
 unfold YPut at HY
 have HFt : Hid (¬ rowF (symQ wide (sysT (atT_ L n f) (n + 1))) = false) := hid (by rw [hfit]; decide)
 have HO := hid ho
 have HH := hid H
 have HF1 := hid hb
 have HG1 := hid hg
 have HS1 := hid hss
 have HRn := hid hrn
 have HZs := hid hzs
 have HZz := hid hz
 have hc3 := hss.cap
 have hm3 := hss.max
 unfold maxLen at hm3
 change Hid (∀ W, ZS W W.heap.size 6 Ay (n + 1) cy ((sysT (atT_ L n f) (n + 1)).map Sy.C) → Calls Tryz.prog 9 #[.slice Ay (n + 1) cy, .agg #[.bool wide, .bool big]] W fun e w' =>
  (rowF (symQ wide (sysT (atT_ L n f) (n + 1))) = true ∧ ∃ A c, e = .returned (.tuple #[.slice A (symT L n wide big f).length c, .nilIface]) ∧ OB w' W.heap.size 5 A (symT L n wide big f).length c (symT L n wide big f) ∧ Grow W w') ∨
  (rowF (symQ wide (sysT (atT_ L n f) (n + 1))) = false ∧ e = .returned (.tuple #[.slice none 0 0, .iface 86 (.int .i64 1)]) ∧ Grow W w')) at HY
 have HJ : Hid (∀ An cn Ab cb At ct a W, TfF gf S a → Blk W gf 23 #[.bool wide, .bool big] → Grow w W → a.tmps.getD 12 undef = .slice (some ⟨ba, oa, none⟩) (n + 1) c3 → SS W W.heap.size (some ⟨ba, oa, none⟩) (n + 1) c3 (allT L f n) →
  a.tmps.getD 14 undef = .slice An (nmT L n f).length cn → RB W W.heap.size An (nmT L n f).length cn (nmT L n f) → a.tmps.getD 21 undef = .slice Ab (symT L n wide big f).length cb → RB W W.heap.size Ab (symT L n wide big f).length cb (symT L n wide big f) →
  a.tmps.getD 19 undef = .slice At (tblT L wide big b f).B.length ct → RB W W.heap.size At (tblT L wide big b f).B.length ct (tblT L wide big b f).B → TfW w 17 a W) :=
  hid fun An cn Ab cb At ct a W k1 k2 k3 k4 k5 k6 k7 k8 k9 k10 k11 => HH.out a W ⟨gf, b, f, some ⟨ba, oa, none⟩, c3, An, cn, Ab, cb, At, ct, k1, k2, k3, HO.out, HZz.out, k4, k5, k6, k7, k8, k9, k10, k11⟩
 clear hea ho hb hg hss H HH he hl hrn hzs hz hOk hdrop e1 hfit HO HZz
 generalize allT L f n = all at *
 generalize sysT (atT_ L n f) (n + 1) = sy at *
 generalize nmT L n f = nm at *
 generalize symT L n wide big f = sb at *
 generalize tblT L wide big b f = T at *
 generalize T.L = TL at *
 generalize T.B = TB at *
 generalize rowF (symQ wide sy) = rf at *
 generalize nm.length = q at *
 generalize sb.length = q2 at *
 generalize hq3 : TB.length = q3 at *
 conv => arg 2; whnf
 apply wp_seq_k
 intro K hK
 have HK := hid hK
 clear hK
 refine wp_region_chain [(0, true), (1, true), (2, true), (3, true), (4, true), (5, false), (6, true), (7, true), (8, true), (9, true), (10, true)] (by kernel_rfl) (by kernel_rfl) (by kernel_rfl) ?_
 have HF2 := hid (HF1.out.drew)
 have HG2 : Hid (Grow w W.drew) := hid (HG1.out.trans (Grow.of_drew _))
 have HS2 := hid (HS1.out.grow (Grow.of_drew W))
 have HD2 := hid (HD1.out.grow (Grow.of_drew W))
 have HR2 := hid (HRn.out.grow (Grow.of_drew W))
 have HZ2 := hid (HZs.out.grow (Grow.of_drew W))
 clear HF1 HG1 HS1 HD1 HRn HZs
 generalize W.drew = v0 at HF2 HG2 HS2 HD2 HR2 HZ2 ⊢
 have f0 : ∀ W, Grow v0 W → W.cell? ⟨gf, 0, none⟩ = some (.bool wide) := fun W hW => (HF2.out.grow hW).at 0
 have f1 : ∀ W, Grow v0 W → W.cell? ⟨gf, 1, none⟩ = some (.bool big) := fun W hW => (HF2.out.grow hW).at 1
 repeat ((first | (refine chain_take rfl (by rfl) ?_ (fun W hG => ?_) ?_; rotate_left; (go_simp; rfl)) | refine chain_skip rfl (by rfl) ?_); simp only [Act.put, List.setIfInBounds_toArray, List.set_cons_zero, List.set_cons_succ])
 clear f0 f1 hcut
 refine chain_only rfl (by rfl) (fun K hK => ?_)
 go_simp
 refine (HBu.out _ _ _ HD2.out).mono ?_
 rintro e w3 ⟨At, nt, ct, rfl, hrb, hg⟩
 refine hK _ _ hg ?_
 clear hK K
 have e3 := hrb.len
 rw [hq3] at e3
 subst e3
 have HF3 := hid (HF2.out.grow hg)
 have HG3 : Hid (Grow w w3) := hid (HG2.out.trans hg)
 have HS3 := hid (HS2.out.grow hg)
 have HR3 := hid (HR2.out.grow hg)
 have HZ3 := hid (HZ2.out.grow hg)
 have HT3 := hid hrb
 clear hrb hg HF2 HG2 HS2 HD2 HR2 HZ2 HBu
 repeat ((first | (refine chain_take rfl (by rfl) ?_ (fun W hG => ?_) ?_; rotate_left; (go_simp; rfl)) | refine chain_skip rfl (by rfl) ?_); simp only [Act.put, List.setIfInBounds_toArray, List.set_cons_zero, List.set_cons_succ])
 refine chain_done ?_
 apply HK.out
 clear HK
 clear K
 apply wp_seq_k
 intro K hK
 have HK := hid hK
 clear hK
 obtain ⟨f0, f1⟩ := HF3.out.c2
 go_wp2_with fail
 clear f0 f1
 refine (HY.out _ HZ3.out).mono ?_
 rintro e w4 (⟨-, Ab, cb, rfl, hob, hg⟩ | ⟨hno, -, -⟩)
 rotate_left
 ·exact absurd hno HFt.out
 have HF4 := hid (HF3.out.grow hg)
 have HG4 : Hid (Grow w w4) := hid (HG3.out.trans hg)
 have HS4 := hid (HS3.out.grow hg)
 have HR4 := hid (HR3.out.grow hg)
 have HT4 := hid (HT3.out.grow hg)
 have HB4 := hid hob.rb
 clear hob hg HF3 HG3 HS3 HR3 HZ3 HT3 HY
 go_wp2
 apply HK.out
 clear HK
 clear K
 apply wp_seq_k
 intro K hK
 have HK := hid hK
 clear hK
 go_wp2
 apply HK.out
 exact HJ.out An cn Ab cb At ct _ _ ⟨rfl, rfl, rfl, rfl, rfl⟩ HF4.out HG4.out rfl HS4.out rfl HR4.out rfl HB4.out rfl HT4.out
set_option linter.unusedVariables false
def RM {α : Type} (K : RK α) (w : World) (B : Nat) (r : Array Value) (a : α) : Prop := ∃ A n c, r = K.cs a (.slice A n c) ∧ (RB w B A n c (K.by_ a) ∨ OB w B 5 A n c (K.by_ a))
def GM {α : Type} (K : RK α) (w : World) (B : Nat) (e : TypeId) (A : Option Addr) (k c : Nat) (L : List α) : Prop :=
 ∃ R, ZO w B e K.z A k c R ∧ R.length = L.length ∧ ∀ j (h : j < R.length) (h' : j < L.length), RM K w B R[j] L[j]
section
variable {α : Type} {K : RK α} {w w' : World} {B : Nat} {e t : TypeId} {A : Option Addr} {k c : Nat} {L : List α} {r : Array Value} {a : α}
theorem RM.keep (h : RM K w B r a) (hg : Grow w w') (hB : B ≤ w.heap.size) : RM K w' B r a := by
 obtain ⟨A, n, c, e1, h1⟩ := h
 refine ⟨A, n, c, e1, ?_⟩
 rcases h1 with h1 | h1
 ·exact .inl (h1.belowAt hg hB)
 ·exact .inr (h1.keep hg)
theorem RM.rb (h : RM K w B r a) (hB : B ≤ w.heap.size) : ∃ A n c, r = K.cs a (.slice A n c) ∧ RB w w.heap.size A n c (K.by_ a) := by
 obtain ⟨A, n, c, e1, h1⟩ := h
 refine ⟨A, n, c, e1, ?_⟩
 rcases h1 with h1 | h1
 ·exact h1.more hB
 ·exact h1.rb
theorem GM.keep (h : GM K w B e A k c L) (hg : Grow w w') (hB : B ≤ w.heap.size) : GM K w' B e A k c L := by
 obtain ⟨R, h1, h2, h3⟩ := h
 exact ⟨R, h1.keep hg, h2, fun j a b => (h3 j a b).keep hg hB⟩
theorem GM.zr (h : GM K w B e A k c L) (hB : B ≤ w.heap.size) : ZR K w w.heap.size A k c L := by
 obtain ⟨R, h1, h2, h3⟩ := h
 exact ⟨R, h1.zs, h2, fun j a b => (h3 j a b).rb hB⟩
theorem RM.past {g : Nat} {cs : Array Value} (h : RM K w B r a) (hb : Blk w g t cs) (hu : 5 ≠ t) (hg : w.grownBy w' (some g)) (hB : B ≤ g) (hs : B ≤ w.heap.size) : RM K w' B r a := by
 obtain ⟨A, n, c, e1, h1⟩ := h
 refine ⟨A, n, c, e1, ?_⟩
 rcases h1 with h1 | h1
 ·exact .inl (h1.belowAt ((Below.refl B w).grown hg hs fun k hk => by injection hk with hk; omega) (Nat.le_refl _))
 ·refine .inr (h1.passed hg ?_)
  rcases h1.2 with ⟨hv, _⟩ | ⟨g', cap, cur, hv, _, hh, _⟩
  ·injection hv with e1 _ _
   subst e1
   exact .inl rfl
  ·injection hv with e1 _ _
   subst e1
   refine .inr fun hA => ?_
   have e3 : g' = g := Option.some.inj hA
   subst e3
   rw [hb] at hh
   injection hh with hh
   injection hh with _ hh
   exact hu hh.symm
theorem GM.past {g : Nat} {cs : Array Value} (h : GM K w B e A k c L) (hb : Blk w g t cs) (hne : e ≠ t) (hu : 5 ≠ t) (hg : w.grownBy w' (some g)) (hB : B ≤ g) (hs : B ≤ w.heap.size) : GM K w' B e A k c L := by
 obtain ⟨R, h1, h2, h3⟩ := h
 refine ⟨R, h1.past hg ?_, h2, fun j a b => (h3 j a b).past hb hu hg hB hs⟩
 rcases h1.1.2 with ⟨hv, _⟩ | ⟨g', cap, cur, hv, _, hh, _⟩
 ·injection hv with e1 _ _
  subst e1
  exact .inl rfl
 ·injection hv with e1 _ _
  subst e1
  refine .inr fun hA => ?_
  have e3 : g' = g := Option.some.inj hA
  subst e3
  rw [hb] at hh
  injection hh with hh
  injection hh with _ hh
  exact hne hh.symm
end
end Go.Proofs.YtfbimboemahhhaaGreatDoor
