/-
  Several texts in one: The image of a model's bytes is the model's; The contract of file; The contract of the statements' Few; Small facts of a model's number; The walk of ImageBoth; From what the frame tells of a slice of bytes that came in to RB; What came in as a number, and as a slice of bytes, opened; What came in as a form, opened.
-/
import Derived.Test.YtaianmonokeimaaIbH18
import Derived.Test.YtaianmonokeimaaIbH26
import Derived.Test.YtaianmonokeimaaIbH28
import Derived.Test.YtaianmonokeimaaIbH8
import Derived.Test.YtaianmonokeimaaIbH13
import Derived.Test.YtaianmonokeimaaIbH23
import Derived.Test.YtaianmonokeimaaIbH24
import Derived.Test.YtaianmonokeimaaIbH1
import Derived.OpenShut
import Derived.Test.YtaianmonokeimaaRows
import Derived.Deep.SlicePairs
import Derived.Lib.SmallJoins
import Derived.Test.YtaianmonokeimaaIbH4
namespace Go.Proofs.Ytaianmonokeimaa
open Go.Lib (hid)
open Go.RowKit
theorem wrote_img {m : Md} {l : List UInt8} (w : Wrote m l) : Img l ∧ imL l = m.img := by
 have hn : (hdOf l).pn = m.segs.length := by rw [w.hdOf]; rfl
 have h16 := w.good.n1
 have ho := w.good.planned.order
 have hl := w.len
 have hp : ∀ i, i < m.segs.length → pgs l i = m.pg i := fun i hi => w.pgs hi (w.good.pgFits hi)
 refine ⟨⟨w.told, by omega, fun i hi => ?_, fun i hi ht => ?_⟩, ?_⟩
 ·rw [hn] at hi
  have hz := w.good.z1 hi
  rw [Pg.lenL] at hz
  rw [w.pAt, w.wide]
  omega
 ·rw [hn] at hi
  rw [hp i hi]
  have a := w.good.seg_at hi
  exact in_yes (show m.P2 i + (m.sg i).pl.size ≤ _ by omega)
 ·unfold imL fImg Md.img sgImg
  rw [hn]
  refine filter_map_same (by simp) fun i h1 h2 => ?_
  have hi : i < m.segs.length := h2
  have hs : m.segs[i] = m.sg i := by
   unfold Md.sg
   rw [List.getD_eq_getElem?_getD, List.getElem?_eq_getElem h2]
   rfl
  rw [List.getElem_range, hp i hi, hs]
  refine ⟨rfl, fun ht => ?_⟩
  have ht' : (m.sg i).typ = 1 := by simpa [Md.pg] using ht
  have hin := w.good.planned.load i hi ht'
  obtain ⟨_, h4⟩ := may_own_len (w.good.segMay hi) hin
  have a := w.good.seg_at hi
  have h3 := w.read (m.P2 i) (m.sg i).pl.own (.inr (.inr (.inl ⟨i, hi, rfl, rfl⟩))) (by omega)
  show (⟨(m.sg i).vaddr, (m.sg i).memsz, (m.sg i).flags, (l.drop (m.P2 i)).take (m.sg i).pl.size⟩ : Rg) = sgRg (m.sg i)
  rw [← h4, h3]
  rfl
set_option maxRecDepth 100000
set_option linter.unusedVariables false
def EncR (m : Md) (w : World) (e : Ending) (w' : World) : Prop :=
 (m.planC = 0 ∧ ∃ g L, e = .returned (.tuple #[.slice (some ⟨g, 0, none⟩) L.length L.length, .nilIface]) ∧ FileIs m L ∧ Blk w' g 5 (L.map byt).toArray ∧ w.heap.size ≤ g ∧ Grow w w') ∨
 (m.planC ≠ 0 ∧ e = .returned (.tuple #[.slice none 0 0, .iface 67 (.int .i64 (m.planC : Nat))]) ∧ Grow w w')
set_option maxHeartbeats 4000000 in
theorem encode_any (m : Md) (ok : m.Ok) (A1 A2 : Option Addr) (n1 c1 n2 c2 : Nat) (w : World) (g1 : ZR sgK w w.heap.size A1 n1 c1 m.segs) (g2 : ZR seK w w.heap.size A2 n2 c2 m.secs) :
  Calls Try.prog 6 #[.agg (mdC m (.slice A1 n1 c1) (.slice A2 n2 c2))] w (EncR m w) := by
 have HO := hid (fun W (hg : Grow w W) => of_any m ok A1 A2 n1 c1 n2 c2 W (g1.grow hg) (g2.grow hg))
 have HW := hid (fun (h0 : m.planC = 0) W (hg : Grow w W) A3 n3 c3 A4 n4 c4 p1 p2 => write_any m ⟨ok, h0, g1.owns, g2.owns⟩ A1 A2 A3 A4 n1 c1 n2 c2 n3 c3 n4 c4 W (g1.grow hg) (g2.grow hg) p1 p2)
 have HD : Hid (m.planC = 0 → m.planD = ⟨m.phoff, m.shoff, m.eT, (List.range m.segs.length).map m.P2, (List.range m.secs.length).map m.P3⟩) := hid fun h => by unfold Md.planD; rw [if_pos h]
 have HF : Hid (∀ L, FileIs m L → FileIs m L) := hid fun L h => h
 unfold OfR PlanR at HO
 unfold WriteR at HW
 unfold EncR
 clear g1 g2 ok
 obtain ⟨x0, x1, x2, x3, x4, x5, x6, x7, x10, hC⟩ : ∃ x0 x1 x2 x3 x4 x5 x6 x7 x10 : Value, mdC m (.slice A1 n1 c1) (.slice A2 n2 c2) = #[x0, x1, x2, x3, x4, x5, x6, x7, .slice A1 n1 c1, .slice A2 n2 c2, x10] := ⟨_, _, _, _, _, _, _, _, _, rfl⟩
 rw [hC] at HO HW ⊢
 clear hC HF
 obtain ⟨C, hCe⟩ : ∃ C, m.planC = C := ⟨_, rfl⟩
 have HCe := hid hCe
 rw [hCe] at HO HW HD ⊢
 clear hCe
 go_enter Try.func6, Try.ntmps6
 go_wp2_with fail
 generalize hW : World.alloc _ _ = W0
 obtain ⟨b0, hg⟩ := blk1 hW
 clear hW
 refine (HO.out _ hg).mono ?_
 rintro e w1 ⟨cs, rfl, ⟨A, n, c, A', n', c', rfl, h1, h2⟩, hg1⟩
 have HM := hid (b0.grow hg1)
 have HG : Hid (Grow w w1) := hid (hg.trans hg1)
 have HN1 := hid h1
 have HN2 := hid h2
 clear b0 hg hg1 h1 h2 HO
 by_cases h0 : C = 0
 ·rw [h0, eC_zero]
  rw [h0] at HW HD
  have hD := HD.out rfl
  rw [hD] at HN1 HN2 ⊢
  simp only [] at HN1 HN2 ⊢
  have HW2 := hid (HW.out rfl)
  have HC0 : Hid (C = 0) := hid h0
  clear h0 hD HD HW HCe
  generalize m.phoff = ph at HW2 ⊢
  generalize m.shoff = sh at HW2 ⊢
  generalize hT : m.eT = T at HW2 ⊢
  clear hT
  have hal := Grow.of_alloc w1 (.cells #[.int .u64 (ph : Int), .int .u64 (sh : Int), .int .u64 (T : Int), .slice A n c, .slice A' n' c'] 59)
  have HMa := hid (HM.out.grow hal)
  have HGa : Hid (Grow w (w1.alloc (.cells #[.int .u64 (ph : Int), .int .u64 (sh : Int), .int .u64 (T : Int), .slice A n c, .slice A' n' c'] 59))) := hid (HG.out.trans hal)
  have HN1a := hid ((HN1.out.belowAt hal (Nat.le_refl _)).more hal.size)
  have HN2a := hid ((HN2.out.belowAt hal (Nat.le_refl _)).more hal.size)
  clear hal HM HG HN1 HN2
  obtain ⟨v0, v1, v2, v3, v4, v5, v6, v7, v8, v9, v10⟩ := HMa.out.c11
  go_wp2_with fail
  clear v0 v1 v2 v3 v4 v5 v6 v7 v8 v9 v10
  refine (HW2.out _ HGa.out _ _ _ _ _ _ HN1a.out HN2a.out).mono ?_
  rintro e w3 ⟨g, L, rfl, hf, hb, hge, hg⟩
  have HFi := hid hf
  have HBl := hid hb
  have HGe : Hid (w.heap.size ≤ g) := hid (Nat.le_trans HGa.out.size hge)
  have HG3 : Hid (Grow w w3) := hid (HGa.out.trans hg)
  clear hf hb hge hg HMa HGa HN1a HN2a HW2
  go_wp2
  go_ret2
  exact .inl ⟨HC0.out, g, L, rfl, HFi.out, HBl.out, HGe.out, HG3.out⟩
 ·rw [eC_some h0]
  have HC0 : Hid (C ≠ 0) := hid h0
  clear h0 HD HW HN1 HN2
  generalize m.planD = D
  go_wp2
  go_ret2
  exact .inr ⟨HC0.out, rfl, HG.out.trans (Grow.of_alloc _ _)⟩
def Md.sum (m : Md) : Nat := (m.segs.map fun s => s.pl.own.length).sum + (m.secs.map fun s => s.pl.own.length).sum
def Md.few (m : Md) : Nat := if 20 < m.segs.length then 0 else if 70 < m.secs.length then 0 else if 100000 < m.sum then 0 else 1
theorem sum_snoc {α : Type} (f : α → Nat) (l : List α) (k : Nat) (h : k < l.length) : ((l.take (k + 1)).map f).sum = ((l.take k).map f).sum + f l[k] := by
 rw [takeS l k h, List.map_append, List.sum_append]
 simp
theorem sum_le {α : Type} (f : α → Nat) (b : Nat) : ∀ (l : List α), (∀ a ∈ l, f a ≤ b) → (l.map f).sum ≤ l.length * b
 | [], _ => by simp
 | a :: r, h => by
  have := sum_le f b r fun x hx => h x (List.mem_cons_of_mem _ hx)
  have := h a (by simp)
  simp only [List.map_cons, List.sum_cons, List.length_cons, Nat.succ_mul]
  omega
theorem sum_take_le {α : Type} (f : α → Nat) (l : List α) (k : Nat) : ((l.take k).map f).sum ≤ (l.map f).sum := by
 have : (l.map f).sum = ((l.take k).map f).sum + ((l.drop k).map f).sum := by
  rw [← List.sum_append, ← List.map_append, List.take_append_drop]
 omega
set_option maxHeartbeats 1000000 in
theorem few_any (m : Md) (A1 A2 : Option Addr) (n1 c1 n2 c2 : Nat) (w : World) (g1 : ZR sgK w w.heap.size A1 n1 c1 m.segs) (g2 : ZR seK w w.heap.size A2 n2 c2 m.secs) (hsm0 : n1 ≤ 20 → n2 ≤ 70 → m.sum ≤ 4000000000000000000) :
  Calls Try.prog 5 #[.agg (mdC m (.slice A1 n1 c1) (.slice A2 n2 c2))] w fun e w' => e = .returned (.int .i64 (m.few : Nat)) ∧ Grow w w' := by
 obtain ⟨x0, x1, x2, x3, x4, x5, x6, x7, x10, hC⟩ : ∃ x0 x1 x2 x3 x4 x5 x6 x7 x10 : Value, mdC m (.slice A1 n1 c1) (.slice A2 n2 c2) = #[x0, x1, x2, x3, x4, x5, x6, x7, .slice A1 n1 c1, .slice A2 n2 c2, x10] := ⟨_, _, _, _, _, _, _, _, _, rfl⟩
 rw [hC]
 have hm1 := g1.max
 have hc1 := g1.cap
 have hm2 := g2.max
 have hc2 := g2.cap
 have HZ1 := hid g1
 have HZ2 := hid g2
 have HL1 := hid g1.len
 have HL2 := hid g2.len
 have E := hid (show m.few = if 20 < n1 then 0 else if 70 < n2 then 0 else if 100000 < m.sum then 0 else 1 by rw [g1.len, g2.len]; rfl)
 have ES : Hid (m.sum = (m.segs.map fun s => s.pl.own.length).sum + (m.secs.map fun s => s.pl.own.length).sum) := hid rfl
 generalize m.few = R at E ⊢
 generalize m.sum = S at E ES hsm0
 generalize m.segs = L1 at HZ1 HL1 ES
 generalize m.secs = L2 at HZ2 HL2 ES
 have HA : Hid (∀ k, ((L1.take k).map fun s => s.pl.own.length).sum ≤ S) := hid fun k => by
  have := sum_take_le (fun s : Sg => s.pl.own.length) L1 k
  have := ES.out
  omega
 have HB : Hid (∀ k, (L1.map fun s => s.pl.own.length).sum + ((L2.take k).map fun s => s.pl.own.length).sum ≤ S) := hid fun k => by
  have := sum_take_le (fun s : Se => s.pl.own.length) L2 k
  have := ES.out
  omega
 clear hC g1 g2
 unfold maxLen at hm1 hm2
 by_cases h1 : 20 < n1
 ·have E2 := hid (show R = 0 by rw [E.out, if_pos h1])
  go_enter Try.func5, Try.ntmps5
  go_wp2
  go_ret
  exact ⟨by rw [E2.out]; rfl, Grow.of_alloc _ _⟩
 rw [if_neg h1] at E
 have d1 : decide (20 < n1) = false := decide_eq_false h1
 have d1' : decide ((20 : Int) < (n1 : Int)) = false := decide_eq_false (by omega)
 by_cases h2 : 70 < n2
 ·have E2 := hid (show R = 0 by rw [E.out, if_pos h2])
  clear h1
  go_enter Try.func5, Try.ntmps5
  go_wp2
  go_ret
  exact ⟨by rw [E2.out]; rfl, Grow.of_alloc _ _⟩
 rw [if_neg h2] at E
 have d2 : decide (70 < n2) = false := decide_eq_false h2
 have d2' : decide ((70 : Int) < (n2 : Int)) = false := decide_eq_false (by omega)
 have HH : Hid (n1 ≤ 20 ∧ n2 ≤ 70) := hid ⟨by omega, by omega⟩
 have hsm := hsm0 (by omega) (by omega)
 clear h1 h2 hsm0
 go_enter Try.func5, Try.ntmps5
 go_wp2_with fail
 clear d1 d1' d2 d2'
 generalize hW : World.alloc _ _ = W0
 obtain ⟨b1, hg0⟩ := blk1 hW
 clear hW
 have HB1 := hid b1
 have HG0 := hid hg0
 have y8 := b1.at 8
 clear b1 hg0
 go_loop [3, 4] (fun x i => ∃ (k : Nat) (t : Nat), k ≤ n1 ∧ i = .int .i64 k ∧ x = .int .i64 (t : Nat) ∧ Hid (t = ((L1.take k).map fun s => s.pl.own.length).sum)) (fun _ i => n1 - (intOf i).toNat)
 case atStart => exact ⟨0, 0, by omega, rfl, rfl, hid (by simp)⟩
 case round =>
  obtain ⟨k, t, hk, rfl, rfl, HT⟩ := hrel
  by_cases hlt : k < n1
  ·have hkl : k < L1.length := by rw [← HL1.out]; exact hlt
   obtain ⟨b, off, rfl, hb⟩ := HZ1.out.pos (by omega)
   obtain ⟨Ak, nk, ck, -, hcell, gk⟩ := HZ1.out.at hkl
   have t9 : W0.cell? ⟨b, off + k * 10 + 9, none⟩ = some (.slice Ak nk ck) := (Below.cell HG0.out hb).trans (hcell 9 _ rfl)
   have HS := hid (sum_snoc (fun s : Sg => s.pl.own.length) L1 k hkl)
   have hnk : L1[k].pl.own.length = nk := gk.len.symm
   have hle := HA.out (k + 1)
   rw [HS.out, ← HT.out] at hle
   simp only [hnk] at HS hle
   rw [← HT.out] at HS
   clear hcell gk hb hnk
   have z : IntKind.i64.wrap ((t : Int) + (nk : Int)) = ((t + nk : Nat) : Int) := by rw [IntKind.wrap_i64]; omega
   go_wp2
   go_round
   case rel => exact ⟨k + 1, t + nk, by omega, by go_num, by first | rfl | simp, hid HS.out.symm⟩
   case measure => simp [intOf]; omega
  ·obtain rfl : n1 = k := by omega
   have HT1 : Hid (t = (L1.map fun s => s.pl.own.length).sum) := by
    have : L1.take n1 = L1 := by rw [List.take_of_length_le (by have := HL1.out; omega)]
    have h := HT.out
    rw [this] at h
    exact h
   have y9 := HB1.out.at 9
   clear HT
   go_wp2_with fail
   clear y8
   go_loop [3, 5] (fun x i => ∃ (k : Nat) (t' : Nat), k ≤ n2 ∧ i = .int .i64 k ∧ x = .int .i64 (t' : Nat) ∧ Hid (t' = t + ((L2.take k).map fun s => s.pl.own.length).sum)) (fun _ i => n2 - (intOf i).toNat)
   case atStart => exact ⟨0, t, by omega, rfl, rfl, hid (by simp)⟩
   case round =>
    obtain ⟨k, t', hk, rfl, rfl, HT⟩ := hrel
    by_cases hlt : k < n2
    ·have hkl : k < L2.length := by rw [← HL2.out]; exact hlt
     obtain ⟨b, off, rfl, hb⟩ := HZ2.out.pos (by omega)
     obtain ⟨Ak, nk, ck, -, hcell, gk⟩ := HZ2.out.at hkl
     have t9 : W0.cell? ⟨b, off + k * 13 + 12, none⟩ = some (.slice Ak nk ck) := (Below.cell HG0.out hb).trans (hcell 12 _ rfl)
     have HS := hid (sum_snoc (fun s : Se => s.pl.own.length) L2 k hkl)
     have hnk : L2[k].pl.own.length = nk := gk.len.symm
     have hle := HB.out (k + 1)
     rw [HS.out, ← HT1.out, ← Nat.add_assoc, ← HT.out] at hle
     simp only [hnk] at HS hle
     have HS2 : Hid (t' + nk = t + ((L2.take (k + 1)).map fun s => s.pl.own.length).sum) := hid (by rw [HS.out, ← Nat.add_assoc, ← HT.out])
     clear hcell gk hb hnk HS
     have z : IntKind.i64.wrap ((t' : Int) + (nk : Int)) = ((t' + nk : Nat) : Int) := by rw [IntKind.wrap_i64]; omega
     go_wp2
     go_round
     case rel => exact ⟨k + 1, t' + nk, by omega, by go_num, by first | rfl | simp, HS2⟩
     case measure => simp [intOf]; omega
    ·obtain rfl : n2 = k := by omega
     have HS : Hid (t' = S) := by
      have : L2.take n2 = L2 := by rw [List.take_of_length_le (by have := HL2.out; omega)]
      have h := HT.out
      rw [this, HT1.out, ← ES.out] at h
      exact h
     by_cases hb : 100000 < t'
     ·have E2 := hid (show R = 0 by rw [E.out, ← HS.out, if_pos hb])
      have d : decide (100000 < t') = true := decide_eq_true hb
      have d' : decide ((100000 : Int) < (t' : Int)) = true := decide_eq_true (by omega)
      clear hb
      go_wp2
      go_ret
      exact ⟨by rw [E2.out]; rfl, HG0.out⟩
     ·have E2 := hid (show R = 1 by rw [E.out, ← HS.out, if_neg hb])
      have d : decide (100000 < t') = false := decide_eq_false hb
      have d' : decide ((100000 : Int) < (t' : Int)) = false := decide_eq_false (by omega)
      clear hb
      go_wp2
      go_ret
      exact ⟨by rw [E2.out]; rfl, HG0.out⟩
theorem sum_small {m : Md} {n1 n2 : Nat} (l1 : n1 = m.segs.length) (l2 : n2 = m.secs.length) (hs1 : ∀ s ∈ m.segs, s.pl.own.length ≤ reachBytes) (hs2 : ∀ s ∈ m.secs, s.pl.own.length ≤ reachBytes) :
  n1 ≤ 20 → n2 ≤ 70 → m.sum ≤ 4000000000000000000 := fun h1 h2 => by
 have q1 := sum_le (fun s : Sg => s.pl.own.length) reachBytes m.segs hs1
 have q2 := sum_le (fun s : Se => s.pl.own.length) reachBytes m.secs hs2
 have e1 : m.segs.length * reachBytes ≤ 20 * reachBytes := Nat.mul_le_mul_right _ (by omega)
 have e2 : m.secs.length * reachBytes ≤ 70 * reachBytes := Nat.mul_le_mul_right _ (by omega)
 unfold Md.sum
 unfold reachBytes at q1 q2 e1 e2
 omega
set_option maxRecDepth 100000
set_option linter.unusedVariables false
theorem file_back (m : Md) (h : Good m) (L : List UInt8) (hf : FileIs m L) (hl : L.length ≤ 65536) (A : Option Addr) (n c : Nat) (w : World) (hr : RB w w.heap.size A n c L) :
  Calls Try.prog 7 #[.slice A n c] w fun e w' => ∃ A c, e = .returned (.tuple #[.agg #[.int .u64 (m.entry : Nat), .slice A m.img.length c], .nilIface]) ∧ ZR rgK w' w'.heap.size A m.img.length c m.img ∧ Grow w w' := by
 have hw : Wrote m L := by
  have := wrote_of (r := []) h hf (by rw [List.append_nil]; exact hl)
  rwa [List.append_nil] at this
 obtain ⟨hi, he⟩ := wrote_img hw
 have hn := hr.len
 refine Calls.mono (imFile_any L A n c w hr (by omega)) ?_
 rintro e w' (⟨_, A2, c2, rfl, h1, h2⟩ | ⟨h0, _⟩)
 ·rw [he] at h1 ⊢
  have en : (hdOf L).en = m.entry := by rw [hw.hdOf]; rfl
  rw [en]
  exact ⟨A2, c2, rfl, h1.zr, h2⟩
 ·exact absurd hi h0
set_option maxHeartbeats 8000000 in
theorem imageBoth_core (m : Md) (ok : m.Ok) (A1 A2 : Option Addr) (n1 c1 n2 c2 : Nat) (x : Nat) (hx : x < 18446744073709551616) (w : World) (g1 : ZR sgK w w.heap.size A1 n1 c1 m.segs) (g2 : ZR seK w w.heap.size A2 n2 c2 m.secs)
  (hs1 : ∀ s ∈ m.segs, s.pl.own.length ≤ reachBytes) (hs2 : ∀ s ∈ m.secs, s.pl.own.length ≤ reachBytes) :
  Calls Try.prog 3 #[.agg (mdC m (.slice A1 n1 c1) (.slice A2 n2 c2)), .int .u64 x] w fun e w' => e = .returned (.bool true) ∧ Grow w w' := by
 have hsm := sum_small g1.len g2.len hs1 hs2
 have HF := hid (fun (w' : World) (hg : Grow w w') => few_any m A1 A2 n1 c1 n2 c2 w' (g1.grow hg) (g2.grow hg) hsm)
 have HE := hid (fun (w' : World) (hg : Grow w w') => encode_any m ok A1 A2 n1 c1 n2 c2 w' (g1.grow hg) (g2.grow hg))
 have HGd : Hid (m.planC = 0 → Good m) := hid fun h => ⟨ok, h, g1.owns, g2.owns⟩
 have HM := hid (fun (h : Good m) (w' : World) (hg : Grow w w') => imModel_any m A1 n1 c1 (.slice A2 n2 c2) w' (g1.grow hg) (fun s hs => Nat.le_trans (hs1 s hs) (by decide)) (by have := g1.len; have := h.n1; omega))
 have HFb := hid (fun (h : Good m) => file_back m h)
 have HS := hid (fun A1 A3 c1 c3 W => rSameImg_any m.entry m.img A1 A3 m.img.length c1 m.img.length c3 W)
 have HA := hid (fun A c W h => at_any m.entry A m.img.length c m.img x W h hx)
 have HX := hid hx
 unfold EncR at HE
 unfold ImgR at HM
 unfold imC at HM HS HA
 clear g1 g2 ok hs1 hs2 hsm hx
 obtain ⟨x0, x1, x2, x3, x4, x5, x6, x7, x10, hC⟩ : ∃ x0 x1 x2 x3 x4 x5 x6 x7 x10 : Value, (∀ s t, mdC m s t = #[x0, x1, x2, x3, x4, x5, x6, x7, s, t, x10]) := ⟨_, _, _, _, _, _, _, _, _, fun _ _ => rfl⟩
 simp only [hC] at HF HE HM ⊢
 clear hC
 generalize m.entry = en at HM HFb HS HA
 generalize atL m.img x = T at HA
 go_enter Try.func3, Try.ntmps3
 go_wp2_with fail
 generalize hW : World.alloc _ _ = W0
 obtain ⟨b1, hg0⟩ := blk1 hW
 clear hW
 have HM0 := hid b1
 have HG0 := hid hg0
 clear b1 hg0
 refine (up17 _).mono ?_
 rintro e w1 ⟨rfl, hg⟩
 have HM1 := hid (HM0.out.grow hg)
 have HG1 : Hid (Grow w w1) := hid (HG0.out.trans hg)
 clear hg HM0 HG0
 obtain ⟨v0, v1, v2, v3, v4, v5, v6, v7, v8, v9, v10⟩ := HM1.out.c11
 go_wp2_with fail
 clear v0 v1 v2 v3 v4 v5 v6 v7 v8 v9 v10
 refine (HF.out _ HG1.out).mono ?_
 rintro e w2 ⟨rfl, hg⟩
 have HM2 := hid (HM1.out.grow hg)
 have HG2 : Hid (Grow w w2) := hid (HG1.out.trans hg)
 clear hg HM1 HG1 HF
 generalize m.few = few
 by_cases hf : few = 0
 ·have d : ((few : Int) == 0) = true := by simp [hf]
  clear hf
  go_wp2
  go_ret
  exact ⟨rfl, HG2.out⟩
 have d : ((few : Int) == 0) = false := by simp; omega
 clear hf
 obtain ⟨v0, v1, v2, v3, v4, v5, v6, v7, v8, v9, v10⟩ := HM2.out.c11
 go_wp2_with fail
 clear v0 v1 v2 v3 v4 v5 v6 v7 v8 v9 v10 d
 refine (HE.out _ HG2.out).mono ?_
 rintro e w3 (⟨hC0, g, L, rfl, hfi, hb, hge, hg⟩ | ⟨hC0, rfl, hg⟩)
 rotate_left
 ·have HG3 : Hid (Grow w w3) := hid (HG2.out.trans hg)
  clear hC0 hg HE HS HFb HM2 HG2
  go_wp2
  go_ret
  exact ⟨rfl, HG3.out⟩
 have HGo := hid (HGd.out hC0)
 have hS : L.length ≤ 65536 := by have := HGo.out.eT; have := hfi.2; omega
 have hrb := hb.rb (Nat.le_trans hS (by decide))
 have HM3 := hid (HM2.out.grow hg)
 have HG3 : Hid (Grow w w3) := hid (HG2.out.trans hg)
 have HFl := hid (HFb.out HGo.out L hfi hS (some ⟨g, 0, none⟩) L.length L.length w3 hrb)
 have HMo := hid (HM.out HGo.out)
 clear hC0 hfi hb hge hg HE HM2 HG2 HGd HFb HM HGo hrb
 generalize L.length = S at HFl hS ⊢
 generalize m.img.length = q at HFl HMo HS HA
 generalize m.img = IM at HFl HMo HS HA
 go_wp2_with fail
 refine HFl.out.mono ?_
 rintro e w4 ⟨A3, c3, rfl, hz, hg⟩
 have HZ4 := hid hz
 have HM4 := hid (HM3.out.grow hg)
 have HG4 : Hid (Grow w w4) := hid (HG3.out.trans hg)
 clear hz hg HM3 HG3 HFl
 obtain ⟨y0, y1, y2, y3, y4, y5, y6, y7, y8, y9, y10⟩ := (HM4.out.grow (Grow.of_alloc w4 (.cells #[.int .u64 (en : Nat), .slice A3 q c3] 42))).c11
 go_wp2_with fail
 clear y0 y1 y2 y3 y4 y5 y6 y7 y8 y9 y10
 generalize hW : World.alloc _ _ = W5
 obtain ⟨b1, hg⟩ := blk1 hW
 clear hW
 have HX5 := hid b1
 have HZ5 := hid (HZ4.out.grow hg)
 have HG5 : Hid (Grow w W5) := hid (HG4.out.trans hg)
 clear b1 hg HZ4 HG4 HM4
 generalize w4.heap.size = gx at HX5 ⊢
 refine (HMo.out _ HG5.out).mono ?_
 rintro e w6 ⟨A4, c4, rfl, hgr, hg⟩
 have HX6 := hid (HX5.out.grow hg)
 have HZ6 := hid (HZ5.out.grow hg)
 have HY6 := hid hgr.zr
 have HG6 : Hid (Grow w w6) := hid (HG5.out.trans hg)
 clear hgr hg HX5 HZ5 HG5 HMo
 obtain ⟨y0, y1⟩ := (HX6.out.grow (Grow.of_alloc w6 (.cells #[.int .u64 (en : Nat), .slice A4 q c4] 42))).c2
 go_wp2_with fail
 clear y0 y1
 generalize hW : World.alloc _ _ = W7
 obtain ⟨b1, hg⟩ := blk1 hW
 clear hW
 have HX7 := hid (HX6.out.grow hg)
 have HV7 := hid b1
 have HZ7 := hid (HZ6.out.grow hg)
 have HY7 := hid (HY6.out.grow hg)
 have HG7 : Hid (Grow w W7) := hid (HG6.out.trans hg)
 clear b1 hg HX6 HZ6 HY6 HG6
 generalize w6.heap.size = gy at HV7 ⊢
 refine (HA.out A3 c3 W7 HZ7.out).mono ?_
 rintro e w8 ⟨rfl, hg⟩
 have HX8 := hid (HX7.out.grow hg)
 have HV8 := hid (HV7.out.grow hg)
 have HZ8 := hid (HZ7.out.grow hg)
 have HY8 := hid (HY7.out.grow hg)
 have HG8 : Hid (Grow w w8) := hid (HG7.out.trans hg)
 clear hg HX7 HV7 HZ7 HY7 HG7
 obtain ⟨y0, y1⟩ := HV8.out.c2
 go_wp2_with fail
 clear y0 y1
 refine (HA.out A4 c4 w8 HY8.out).mono ?_
 rintro e w9 ⟨rfl, hg⟩
 have HX9 := hid (HX8.out.grow hg)
 have HV9 := hid (HV8.out.grow hg)
 have HZ9 := hid (HZ8.out.grow hg)
 have HY9 := hid (HY8.out.grow hg)
 have HG9 : Hid (Grow w w9) := hid (HG8.out.trans hg)
 clear hg HX8 HV8 HZ8 HY8 HG8
 obtain ⟨x0, x1⟩ := HX9.out.c2
 obtain ⟨y0, y1⟩ := HV9.out.c2
 go_wp2_with fail
 clear x0 x1 y0 y1
 refine (HS.out A3 A4 c3 c4 w9 HZ9.out HY9.out).mono ?_
 rintro e w10 ⟨rfl, hg⟩
 have HG10 : Hid (Grow w w10) := hid (HG9.out.trans hg)
 clear hg
 obtain ⟨t1, t2, t3⟩ := T
 go_wp2
 go_ret
 exact ⟨rfl, HG10.out⟩
theorem wf_u8 {n : Int} (h : (Lit.int .u8 n).wf = true) : 0 ≤ n ∧ n ≤ 255 := by
 simpa [Lit.wf, IntKind.bits, IntKind.signed] using bounds_u8 h
theorem rb_of_cells (w : World) (x : Addr) (len cap : Nat) (zs : List Int) (hl : len ≤ cap) (hm : cap ≤ maxLen) (hz : zs.length = cap)
  (hcell : ∀ i, i < zs.length → w.cell? (x.add i) = some (.int .u8 (zs.getD i 0))) (hwf : ∀ n ∈ zs, (Lit.int .u8 n).wf = true) :
  RB w w.heap.size (some x) len cap ((zs.take len).map fun n => UInt8.ofNat n.toNat) := by
 refine ⟨by simp; omega, hl, hm, fun hp => ?_⟩
 obtain ⟨b, off, spot⟩ := x
 have h0 := hcell 0 (by omega)
 have hspot : spot = none := by simpa [Addr.add] using World.cell?_spot h0
 subst hspot
 refine ⟨b, off, rfl, ?_, fun j hj => ?_⟩
 ·rcases Nat.lt_or_ge b w.heap.size with h | h
  ·exact h
  ·simp [Addr.add, World.cell?, Array.getElem?_eq_none h] at h0
 ·have hj' : j < len := by simp at hj; omega
  have e2 : (⟨b, off, none⟩ : Addr).add j = ⟨b, off + j, none⟩ := by unfold Addr.add; split <;> simp_all
  rw [← e2, hcell j (by omega)]
  have hjz : j < zs.length := by omega
  have hb := wf_u8 (hwf zs[j] (List.getElem_mem hjz))
  simp only [List.getElem_map, List.getElem_take, List.getD_eq_getElem?_getD, List.getElem?_eq_getElem hjz, Option.getD_some]
  congr 2
  rw [UInt8.toNat_ofNat', Nat.mod_eq_of_lt (by omega)]
  omega
end Go.Proofs.Ytaianmonokeimaa
namespace Go.Proofs.Ytaianmonokeimaa
open Go.Lib (hid)
open Go.ChangeShapes Go.WideShapes Go.RowKit Go.Joins Go.Deep
set_option maxRecDepth 100000
section
variable {H : Type} {enc : TypeId × Value → H} {w : World} {base : Nat} {spare : Nat → Bool} {held : Bool}
theorem u64_of_cell {n : Nat} {v : Value} {y : DataW H × List MemPlace} (h : DataW.trod enc Try.prog w base spare held n 28 [v] = some y) : ∃ a : Nat, a < 18446744073709551616 ∧ v = .int .u64 (a : Int) := by
 obtain ⟨x, hx, _, hw⟩ := DataW.trod_int Try.underlying28 h
 have := bounds_u64 hw
 injection hx with hx
 exact ⟨x.toNat, by omega, by rw [hx]; congr 1; omega⟩
theorem open_u64 {r : Reach} {b0 : Nat} {v : Value} {d : DataW H} {p : List MemPlace} (hv : Value.okWide Try.prog w r b0 28 v) (h : DataW.Trod enc Try.prog w base spare held 28 v d p) : ∃ a : Nat, v = .int .u64 a ∧ a < 18446744073709551616 := by
 obtain ⟨x, rfl, _, _, hw⟩ := open_int Try.underlying28 hv h
 have hb := bounds_u64 hw
 exact ⟨x.toNat, by congr 1; omega, by omega⟩
end
set_option maxRecDepth 100000
section
variable {H : Type} {enc : TypeId × Value → H} {w : World} {base : Nat} {spare : Nat → Bool} {held : Bool}
theorem form_of_cells {n : Nat} {c0 c1 : Value} {y : DataW H × List MemPlace} (hf : DataW.trod enc Try.prog w base spare held n 23 [c0, c1] = some y) : ∃ wide big : Bool, c0 = .bool wide ∧ c1 = .bool big := by
 obtain ⟨x0, x1, m, _, _, k0, k1⟩ := trod_struct2 Try.underlying23 hf
 have k0' : DataW.trod enc Try.prog w base spare held m 4 [c0] = some x0 := by
  simpa [show Program.cellsOf Try.prog 4 = 1 by kernel_rfl] using k0
 have k1' : DataW.trod enc Try.prog w base spare held m 4 [c1] = some x1 := by
  simpa [show Program.cellsOf Try.prog 4 = 1 by kernel_rfl] using k1
 obtain ⟨wide, e0, _⟩ := DataW.trod_bool Try.underlying4 k0'
 obtain ⟨big, e1, _⟩ := DataW.trod_bool Try.underlying4 k1'
 injection e0 with e0
 injection e1 with e1
 exact ⟨wide, big, e0, e1⟩
end
end Go.Proofs.Ytaianmonokeimaa
