/-
  Several texts in one: The image of a model's bytes is the model's; What image; The contract of file; The contracts of file.
-/
import Derived.Test.YtfbimboemahhhaaGreatDoorTfG22
import Derived.Test.YtfbimboemahhhaaGreatDoorTfG27
import Derived.Test.YtfbimboemahhhaaGreatDoorTfG28
import Derived.Test.YtfbimboemahhhaaGreatDoorTfG26
import Derived.Test.YtfbimboemahhhaaGreatDoorTfG25
import Derived.Test.YtfbimboemahhhaaGreatDoorTfG13
import Derived.Test.YtfbimboemahhhaaGreatDoorTfG7
namespace Go.Proofs.YtfbimboemahhhaaGreatDoor
open Go.Lib (hid)
open Go.RowKit
theorem wrote_img {m : Md} {l : List UInt8} (w : Wrote m l) : Img l ∧ imL l = m.img := by
 have hn : (hdOf l).pn = m.segs.length := by rw [w.hdOf]; rfl
 have h16 := w.good.n1
 have ho := w.good.planned.order
 have hl := w.len
 have hp : ∀ i, i < m.segs.length → pgs l i = m.pg i := fun i hi => w.pgs hi (w.good.pgFits hi)
 refine ⟨⟨w.told, by omega, fun i hi => ?_, fun i hi ht => ?_⟩, ?_⟩
 ·rw [hn] at hi
  have hz := w.good.z1 hi
  rw [Pg.lenL] at hz
  rw [w.pAt, w.wide]
  omega
 ·rw [hn] at hi
  rw [hp i hi]
  have a := w.good.seg_at hi
  exact in_yes (show m.P2 i + (m.sg i).pl.size ≤ _ by omega)
 ·unfold imL fImg Md.img sgImg
  rw [hn]
  refine filter_map_same (by simp) fun i h1 h2 => ?_
  have hi : i < m.segs.length := h2
  have hs : m.segs[i] = m.sg i := by
   unfold Md.sg
   rw [List.getD_eq_getElem?_getD, List.getElem?_eq_getElem h2]
   rfl
  rw [List.getElem_range, hp i hi, hs]
  refine ⟨rfl, fun ht => ?_⟩
  have ht' : (m.sg i).typ = 1 := by simpa [Md.pg] using ht
  have hin := w.good.planned.load i hi ht'
  obtain ⟨_, h4⟩ := may_own_len (w.good.segMay hi) hin
  have a := w.good.seg_at hi
  have h3 := w.read (m.P2 i) (m.sg i).pl.own (.inr (.inr (.inl ⟨i, hi, rfl, rfl⟩))) (by omega)
  show (⟨(m.sg i).vaddr, (m.sg i).memsz, (m.sg i).flags, (l.drop (m.P2 i)).take (m.sg i).pl.size⟩ : Rg) = sgRg (m.sg i)
  rw [← h4, h3]
  rfl
set_option maxRecDepth 100000
set_option linter.unusedVariables false
theorem file_back (m : Md) (h : Good m) (L : List UInt8) (hf : FileIs m L) (hl : L.length ≤ 65536) (A : Option Addr) (n c : Nat) (w : World) (hr : RB w w.heap.size A n c L) :
  Calls Tryz.prog 16 #[.slice A n c] w fun e w' => ∃ A c, e = .returned (.tuple #[.agg #[.int .u64 (m.entry : Nat), .slice A m.img.length c], .nilIface]) ∧ ZR rgK w' w'.heap.size A m.img.length c m.img ∧ Grow w w' := by
 have hw : Wrote m L := by
  have := wrote_of (r := []) h hf (by rw [List.append_nil]; exact hl)
  rwa [List.append_nil] at this
 obtain ⟨hi, he⟩ := wrote_img hw
 have hn := hr.len
 refine Calls.mono (imFile_any L A n c w hr (by omega)) ?_
 rintro e w' (⟨_, A2, c2, rfl, h1, h2⟩ | ⟨h0, _⟩)
 ·rw [he] at h1 ⊢
  have en : (hdOf L).en = m.entry := by rw [hw.hdOf]; rfl
  rw [en]
  exact ⟨A2, c2, rfl, h1.zr, h2⟩
 ·exact absurd hi h0
set_option maxRecDepth 100000
set_option linter.unusedVariables false
def EncR (m : Md) (w : World) (e : Ending) (w' : World) : Prop :=
 (m.planC = 0 ∧ ∃ g L, e = .returned (.tuple #[.slice (some ⟨g, 0, none⟩) L.length L.length, .nilIface]) ∧ FileIs m L ∧ Blk w' g 5 (L.map byt).toArray ∧ w.heap.size ≤ g ∧ Grow w w') ∨
 (m.planC ≠ 0 ∧ e = .returned (.tuple #[.slice none 0 0, .iface 86 (.int .i64 (m.planC : Nat))]) ∧ Grow w w')
set_option maxHeartbeats 4000000 in
theorem encode_any (m : Md) (ok : m.Ok) (A1 A2 : Option Addr) (n1 c1 n2 c2 : Nat) (w : World) (g1 : ZR sgK w w.heap.size A1 n1 c1 m.segs) (g2 : ZR seK w w.heap.size A2 n2 c2 m.secs) :
  Calls Tryz.prog 10 #[.agg (mdC m (.slice A1 n1 c1) (.slice A2 n2 c2))] w (EncR m w) := by
 have HO := hid (fun W (hg : Grow w W) => of_any m ok A1 A2 n1 c1 n2 c2 W (g1.grow hg) (g2.grow hg))
 have HW := hid (fun (h0 : m.planC = 0) W (hg : Grow w W) A3 n3 c3 A4 n4 c4 p1 p2 => write_any m ⟨ok, h0, g1.owns, g2.owns⟩ A1 A2 A3 A4 n1 c1 n2 c2 n3 c3 n4 c4 W (g1.grow hg) (g2.grow hg) p1 p2)
 have HD : Hid (m.planC = 0 → m.planD = ⟨m.phoff, m.shoff, m.eT, (List.range m.segs.length).map m.P2, (List.range m.secs.length).map m.P3⟩) := hid fun h => by unfold Md.planD; rw [if_pos h]
 have HF : Hid (∀ L, FileIs m L → FileIs m L) := hid fun L h => h
 unfold OfR PlanR at HO
 unfold WriteR at HW
 unfold EncR
 clear g1 g2 ok
 obtain ⟨x0, x1, x2, x3, x4, x5, x6, x7, x10, hC⟩ : ∃ x0 x1 x2 x3 x4 x5 x6 x7 x10 : Value, mdC m (.slice A1 n1 c1) (.slice A2 n2 c2) = #[x0, x1, x2, x3, x4, x5, x6, x7, .slice A1 n1 c1, .slice A2 n2 c2, x10] := ⟨_, _, _, _, _, _, _, _, _, rfl⟩
 rw [hC] at HO HW ⊢
 clear hC HF
 obtain ⟨C, hCe⟩ : ∃ C, m.planC = C := ⟨_, rfl⟩
 have HCe := hid hCe
 rw [hCe] at HO HW HD ⊢
 clear hCe
 go_enter Tryz.func10, Tryz.ntmps10
 go_wp2_with fail
 generalize hW : World.alloc _ _ = W0
 obtain ⟨b0, hg⟩ := blk1 hW
 clear hW
 refine (HO.out _ hg).mono ?_
 rintro e w1 ⟨cs, rfl, ⟨A, n, c, A', n', c', rfl, h1, h2⟩, hg1⟩
 have HM := hid (b0.grow hg1)
 have HG : Hid (Grow w w1) := hid (hg.trans hg1)
 have HN1 := hid h1
 have HN2 := hid h2
 clear b0 hg hg1 h1 h2 HO
 by_cases h0 : C = 0
 ·rw [h0, eC_zero]
  rw [h0] at HW HD
  have hD := HD.out rfl
  rw [hD] at HN1 HN2 ⊢
  simp only [] at HN1 HN2 ⊢
  have HW2 := hid (HW.out rfl)
  have HC0 : Hid (C = 0) := hid h0
  clear h0 hD HD HW HCe
  generalize m.phoff = ph at HW2 ⊢
  generalize m.shoff = sh at HW2 ⊢
  generalize hT : m.eT = T at HW2 ⊢
  clear hT
  have hal := Grow.of_alloc w1 (.cells #[.int .u64 (ph : Int), .int .u64 (sh : Int), .int .u64 (T : Int), .slice A n c, .slice A' n' c'] 104)
  have HMa := hid (HM.out.grow hal)
  have HGa : Hid (Grow w (w1.alloc (.cells #[.int .u64 (ph : Int), .int .u64 (sh : Int), .int .u64 (T : Int), .slice A n c, .slice A' n' c'] 104))) := hid (HG.out.trans hal)
  have HN1a := hid ((HN1.out.belowAt hal (Nat.le_refl _)).more hal.size)
  have HN2a := hid ((HN2.out.belowAt hal (Nat.le_refl _)).more hal.size)
  clear hal HM HG HN1 HN2
  obtain ⟨v0, v1, v2, v3, v4, v5, v6, v7, v8, v9, v10⟩ := HMa.out.c11
  go_wp2_with fail
  clear v0 v1 v2 v3 v4 v5 v6 v7 v8 v9 v10
  refine (HW2.out _ HGa.out _ _ _ _ _ _ HN1a.out HN2a.out).mono ?_
  rintro e w3 ⟨g, L, rfl, hf, hb, hge, hg⟩
  have HFi := hid hf
  have HBl := hid hb
  have HGe : Hid (w.heap.size ≤ g) := hid (Nat.le_trans HGa.out.size hge)
  have HG3 : Hid (Grow w w3) := hid (HGa.out.trans hg)
  clear hf hb hge hg HMa HGa HN1a HN2a HW2
  go_wp2
  go_ret2
  exact .inl ⟨HC0.out, g, L, rfl, HFi.out, HBl.out, HGe.out, HG3.out⟩
 ·rw [eC_some h0]
  have HC0 : Hid (C ≠ 0) := hid h0
  clear h0 HD HW HN1 HN2
  generalize m.planD = D
  go_wp2
  go_ret2
  exact .inr ⟨HC0.out, rfl, HG.out.trans (Grow.of_alloc _ _)⟩
set_option maxRecDepth 100000
set_option linter.unusedVariables false
def Spt (w : World) (v : Value) (c p : Nat) : Prop := ∃ b, v = .iface 126 (.pointer (some ⟨b, 0, none⟩)) ∧ b < w.heap.size ∧ w.cell? ⟨b, 0, none⟩ = some (.int .i64 (p : Int)) ∧ w.cell? ⟨b, 1, none⟩ = some (.int .i64 (c : Int))
theorem Spt.err {w : World} {v : Value} {c p : Nat} (h : Spt w v c p) (hc : 0 < c) : Err w v c p := .inr ⟨hc, h⟩
theorem fspot_any (p c : Nat) (w : World) : Calls Tryz.prog 40 #[.int .i64 (p : Int), .int .i64 (c : Int)] w fun e w' => ∃ b, e = .returned (.iface 126 (.pointer (some ⟨b, 0, none⟩))) ∧ Spt w' (.iface 126 (.pointer (some ⟨b, 0, none⟩))) c p ∧ Grow w w' := by
 go_enter Tryz.func40, Tryz.ntmps40
 go_wp2
 go_ret
 exact ⟨_, rfl, ⟨w.heap.size, rfl, by simp, by simp, by simp⟩, Grow.of_alloc _ _⟩
theorem fspot_4 (p : Nat) (w : World) : Calls Tryz.prog 40 #[.int .i64 (p : Int), .int .i64 4] w fun e w' => ∃ b, e = .returned (.iface 126 (.pointer (some ⟨b, 0, none⟩))) ∧ Spt w' (.iface 126 (.pointer (some ⟨b, 0, none⟩))) 4 p ∧ Grow w w' := fspot_any p 4 w
theorem fspot_5 (p : Nat) (w : World) : Calls Tryz.prog 40 #[.int .i64 (p : Int), .int .i64 5] w fun e w' => ∃ b, e = .returned (.iface 126 (.pointer (some ⟨b, 0, none⟩))) ∧ Spt w' (.iface 126 (.pointer (some ⟨b, 0, none⟩))) 5 p ∧ Grow w w' := fspot_any p 5 w
theorem fspot_8 (p : Nat) (w : World) : Calls Tryz.prog 40 #[.int .i64 (p : Int), .int .i64 8] w fun e w' => ∃ b, e = .returned (.iface 126 (.pointer (some ⟨b, 0, none⟩))) ∧ Spt w' (.iface 126 (.pointer (some ⟨b, 0, none⟩))) 8 p ∧ Grow w w' := fspot_any p 8 w
theorem num_0 (a b c d e : Value) (W : World) : (Instr.field 186 (.agg #[a, b, c, d, e]) 0).run Tryz.prog W = .ok a W := by kernel_rfl
theorem num_1 (a b c d e : Value) (W : World) : (Instr.field 186 (.agg #[a, b, c, d, e]) 1).run Tryz.prog W = .ok b W := by kernel_rfl
theorem num_2 (a b c d e : Value) (W : World) : (Instr.field 186 (.agg #[a, b, c, d, e]) 2).run Tryz.prog W = .ok c W := by kernel_rfl
theorem num_3 (a b c d e : Value) (W : World) : (Instr.field 186 (.agg #[a, b, c, d, e]) 3).run Tryz.prog W = .ok d W := by kernel_rfl
theorem num_4 (a b c d e : Value) (W : World) : (Instr.field 186 (.agg #[a, b, c, d, e]) 4).run Tryz.prog W = .ok e W := by kernel_rfl
def bare (ty : Nat) : Bool := decide (ty = 0) || decide (ty = 8)
theorem hasNo_any (ty : Nat) (w : World) : Calls Tryz.prog 96 #[.int .u32 (ty : Int)] w fun e w' => e = .returned (.bool (bare ty)) ∧ w = w' := by
 have E : Hid (bare ty = (((ty : Int) == 0) || ((ty : Int) == 8))) := hid (by
  unfold bare
  rw [Bool.eq_iff_iff]
  simp
  omega)
 generalize bare ty = R at E ⊢
 by_cases h0 : ((ty : Int) == 0) = true
 ·rw [h0] at E
  go_enter Tryz.func96, Tryz.ntmps96
  go_wp2
  go_ret
  exact ⟨by rw [E.out]; rfl, rfl⟩
 ·have h0' : ((ty : Int) == 0) = false := by simpa using h0
  rw [h0'] at E
  clear h0
  go_enter Tryz.func96, Tryz.ntmps96
  go_wp2
  go_ret
  exact ⟨ret_bool (by rw [E.out]; rfl), rfl⟩
theorem isIn_any (A : Option Addr) (n c p m : Nat) (w : World) (hn : n ≤ maxLen) : Calls Tryz.prog 95 #[.slice A n c, .int .u64 (p : Int), .int .u64 (m : Int)] w fun e w' => e = .returned (.bool (inB n p m)) ∧ w = w' := by
 unfold maxLen at hn
 have z : IntKind.u64.wrap (n : Int) = (n : Int) := by rw [IntKind.wrap_u64]; omega
 by_cases h0 : m = 0
 ·have E : Hid (inB n p m = true) := hid (by unfold inB; simp [h0])
  generalize inB n p m = R at E ⊢
  have d : ((m : Int) == 0) = true := by simp [h0]
  clear h0
  go_enter Tryz.func95, Tryz.ntmps95
  go_wp2
  go_ret
  exact ⟨by rw [E.out]; rfl, rfl⟩
 ·have E : Hid (wthn (p : Nat) (m : Nat) (n : Nat) = inB n p m) := hid (by unfold wthn inB; rw [Bool.eq_iff_iff]; simp; omega)
  generalize inB n p m = R at E ⊢
  have d : ((m : Int) == 0) = false := by simp [h0]
  clear h0
  go_enter Tryz.func95, Tryz.ntmps95
  go_wp2_with (go_at_call 106; refine (within_any _ _ _ _ (by omega) (by omega) (by omega)).mono ?_; rintro e w' ⟨rfl, rfl⟩; rw [E.out])
  go_ret
  exact ⟨rfl, rfl⟩
theorem places_any (wide big : Bool) (w : World) : Calls Tryz.prog 90 #[.agg #[.bool wide, .bool big]] w fun e w' => e = .returned (.agg #[.int .i64 (oPh wide : Nat), .int .i64 (oSh wide : Nat), .int .i64 (oPn wide : Nat), .int .i64 (oSn wide : Nat), .int .i64 (oSt wide : Nat)]) ∧ Grow w w' := by
 cases wide
 ·go_enter Tryz.func90, Tryz.ntmps90
  go_wp2
  refine bodyPost_ret (results_cell_row rfl _ _ (w.heap.size + 1) _ _ (0, 0) _ rfl (blk2 rfl).2.1 Tryz.underlying186 rfl (by kernel_rfl)) rfl ?_
  exact ⟨rfl, (blk2 rfl).2.2⟩
 ·go_enter Tryz.func90, Tryz.ntmps90
  go_wp2
  refine bodyPost_ret (results_cell_row rfl _ _ (w.heap.size + 1) _ _ (0, 0) _ rfl (blk2 rfl).2.1 Tryz.underlying186 rfl (by kernel_rfl)) rfl ?_
  exact ⟨rfl, (blk2 rfl).2.2⟩
set_option maxHeartbeats 4000000 in
theorem countsOf_any (h : Hd) (hok : h.Ok) (s : Sc) (sok : s.Ok) (w : World) : Calls Tryz.prog 91 #[h.V, s.V] w fun e w' => e = .returned (.agg #[.int .u64 ((if h.pn = 65535 then s.inf else h.pn : Nat) : Int), .int .u64 ((if h.sn = 0 then s.sz else h.sn : Nat) : Int), .int .u64 ((if h.st = 65535 then s.li else h.st : Nat) : Int)]) ∧ Grow w w' := by
 obtain ⟨k1, k2, k3, k4, k5, k6, k7, k8, k9⟩ := hok
 obtain ⟨s1, s2, s3, s4, s5, s6, s7, s8, s9, s10⟩ := sok
 obtain ⟨wide, big, o, a, ty, ma, en, ph, sh, fl, pn, sn, st⟩ := h
 obtain ⟨na, sty, sfl, ad, off, sz, li, inf, al, sen⟩ := s
 unfold Hd.V Hd.C Sc.V Sc.C
 simp only [] at *
 have z1 : IntKind.u64.wrap (pn : Int) = (pn : Int) := by rw [IntKind.wrap_u64]; omega
 have z2 : IntKind.u64.wrap (sn : Int) = (sn : Int) := by rw [IntKind.wrap_u64]; omega
 have z3 : IntKind.u64.wrap (st : Int) = (st : Int) := by rw [IntKind.wrap_u64]; omega
 have z4 : IntKind.u64.wrap (inf : Int) = (inf : Int) := by rw [IntKind.wrap_u64]; omega
 have z5 : IntKind.u64.wrap (li : Int) = (li : Int) := by rw [IntKind.wrap_u64]; omega
 clear k1 k2 k3 k4 k5 k6 k7 k8 k9 s1 s2 s3 s4 s5 s6 s7 s8 s9 s10
 obtain ⟨r1, e1⟩ : ∃ r, (if pn = 65535 then inf else pn : Nat) = r := ⟨_, rfl⟩
 obtain ⟨r2, e2⟩ : ∃ r, (if sn = 0 then sz else sn : Nat) = r := ⟨_, rfl⟩
 obtain ⟨r3, e3⟩ : ∃ r, (if st = 65535 then li else st : Nat) = r := ⟨_, rfl⟩
 rw [e1, e2, e3]
 by_cases h0 : pn = 65535
 ·rw [if_pos h0] at e1
  have E1 := hid e1
  have d0 : ((pn : Int) == 65535) = true := by simp [h0]
  clear h0 e1
  by_cases h1 : sn = 0
  ·rw [if_pos h1] at e2
   have E2 := hid e2
   have d1 : ((sn : Int) == 0) = true := by simp [h1]
   clear h1 e2
   by_cases h2 : st = 65535
   ·rw [if_pos h2] at e3
    have E3 := hid e3
    have d2 : ((st : Int) == 65535) = true := by simp [h2]
    clear h2 e3
    go_enter Tryz.func91, Tryz.ntmps91
    go_wp2
    refine bodyPost_ret (results_cell_row rfl _ _ (w.heap.size + 1 + 1) _ _ (0, 0) _ rfl (blk4 rfl).2.2.1 Tryz.underlying114 rfl (by kernel_rfl)) rfl ?_
    exact ⟨by rw [← E1.out, ← E2.out, ← E3.out], (blk4 rfl).2.2.2.2⟩
   ·rw [if_neg h2] at e3
    have E3 := hid e3
    have d2 : ((st : Int) == 65535) = false := by simp; omega
    clear h2 e3
    go_enter Tryz.func91, Tryz.ntmps91
    go_wp2
    refine bodyPost_ret (results_cell_row rfl _ _ (w.heap.size + 1 + 1) _ _ (0, 0) _ rfl (blk4 rfl).2.2.1 Tryz.underlying114 rfl (by kernel_rfl)) rfl ?_
    exact ⟨by rw [← E1.out, ← E2.out, ← E3.out], (blk4 rfl).2.2.2.2⟩
  ·rw [if_neg h1] at e2
   have E2 := hid e2
   have d1 : ((sn : Int) == 0) = false := by simp; omega
   clear h1 e2
   by_cases h2 : st = 65535
   ·rw [if_pos h2] at e3
    have E3 := hid e3
    have d2 : ((st : Int) == 65535) = true := by simp [h2]
    clear h2 e3
    go_enter Tryz.func91, Tryz.ntmps91
    go_wp2
    refine bodyPost_ret (results_cell_row rfl _ _ (w.heap.size + 1 + 1) _ _ (0, 0) _ rfl (blk4 rfl).2.2.1 Tryz.underlying114 rfl (by kernel_rfl)) rfl ?_
    exact ⟨by rw [← E1.out, ← E2.out, ← E3.out], (blk4 rfl).2.2.2.2⟩
   ·rw [if_neg h2] at e3
    have E3 := hid e3
    have d2 : ((st : Int) == 65535) = false := by simp; omega
    clear h2 e3
    go_enter Tryz.func91, Tryz.ntmps91
    go_wp2
    refine bodyPost_ret (results_cell_row rfl _ _ (w.heap.size + 1 + 1) _ _ (0, 0) _ rfl (blk4 rfl).2.2.1 Tryz.underlying114 rfl (by kernel_rfl)) rfl ?_
    exact ⟨by rw [← E1.out, ← E2.out, ← E3.out], (blk4 rfl).2.2.2.2⟩
 ·rw [if_neg h0] at e1
  have E1 := hid e1
  have d0 : ((pn : Int) == 65535) = false := by simp; omega
  clear h0 e1
  by_cases h1 : sn = 0
  ·rw [if_pos h1] at e2
   have E2 := hid e2
   have d1 : ((sn : Int) == 0) = true := by simp [h1]
   clear h1 e2
   by_cases h2 : st = 65535
   ·rw [if_pos h2] at e3
    have E3 := hid e3
    have d2 : ((st : Int) == 65535) = true := by simp [h2]
    clear h2 e3
    go_enter Tryz.func91, Tryz.ntmps91
    go_wp2
    refine bodyPost_ret (results_cell_row rfl _ _ (w.heap.size + 1 + 1) _ _ (0, 0) _ rfl (blk4 rfl).2.2.1 Tryz.underlying114 rfl (by kernel_rfl)) rfl ?_
    exact ⟨by rw [← E1.out, ← E2.out, ← E3.out], (blk4 rfl).2.2.2.2⟩
   ·rw [if_neg h2] at e3
    have E3 := hid e3
    have d2 : ((st : Int) == 65535) = false := by simp; omega
    clear h2 e3
    go_enter Tryz.func91, Tryz.ntmps91
    go_wp2
    refine bodyPost_ret (results_cell_row rfl _ _ (w.heap.size + 1 + 1) _ _ (0, 0) _ rfl (blk4 rfl).2.2.1 Tryz.underlying114 rfl (by kernel_rfl)) rfl ?_
    exact ⟨by rw [← E1.out, ← E2.out, ← E3.out], (blk4 rfl).2.2.2.2⟩
  ·rw [if_neg h1] at e2
   have E2 := hid e2
   have d1 : ((sn : Int) == 0) = false := by simp; omega
   clear h1 e2
   by_cases h2 : st = 65535
   ·rw [if_pos h2] at e3
    have E3 := hid e3
    have d2 : ((st : Int) == 65535) = true := by simp [h2]
    clear h2 e3
    go_enter Tryz.func91, Tryz.ntmps91
    go_wp2
    refine bodyPost_ret (results_cell_row rfl _ _ (w.heap.size + 1 + 1) _ _ (0, 0) _ rfl (blk4 rfl).2.2.1 Tryz.underlying114 rfl (by kernel_rfl)) rfl ?_
    exact ⟨by rw [← E1.out, ← E2.out, ← E3.out], (blk4 rfl).2.2.2.2⟩
   ·rw [if_neg h2] at e3
    have E3 := hid e3
    have d2 : ((st : Int) == 65535) = false := by simp; omega
    clear h2 e3
    go_enter Tryz.func91, Tryz.ntmps91
    go_wp2
    refine bodyPost_ret (results_cell_row rfl _ _ (w.heap.size + 1 + 1) _ _ (0, 0) _ rfl (blk4 rfl).2.2.1 Tryz.underlying114 rfl (by kernel_rfl)) rfl ?_
    exact ⟨by rw [← E1.out, ← E2.out, ← E3.out], (blk4 rfl).2.2.2.2⟩
end Go.Proofs.YtfbimboemahhhaaGreatDoor
