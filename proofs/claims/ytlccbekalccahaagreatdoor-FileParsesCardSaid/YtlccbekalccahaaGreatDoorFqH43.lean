/-
  Several texts in one: The contract of file; What was written is read by Parse; and the document's example (up); The contract of the statements' Few; Small facts of a model's number; The walk of FileParses; From what the frame tells of a slice of bytes that came in to RB; What came in as a number, and as a slice of bytes, opened; What came in as a form, opened.
-/
import Derived.Test.YtlccbekalccahaaGreatDoorFqH42
import Derived.Test.YtlccbekalccahaaGreatDoorFqH41
import Derived.Test.YtlccbekalccahaaGreatDoorFqH26
import Derived.Test.YtlccbekalccahaaGreatDoorFqH8
import Derived.Test.YtlccbekalccahaaGreatDoorFqH11
import Derived.Test.YtlccbekalccahaaGreatDoorFqH39
import Derived.Test.YtlccbekalccahaaGreatDoorFqH2
import Derived.OpenShut
import Derived.Test.YtlccbekalccahaaGreatDoorRows
import Derived.Deep.SlicePairs
import Derived.Lib.SmallJoins
import Derived.Test.YtlccbekalccahaaGreatDoorFqH4
namespace Go.Proofs.YtlccbekalccahaaGreatDoor
open Go.Lib (hid)
open Go.RowKit
set_option maxRecDepth 100000
set_option linter.unusedVariables false
def EncR (m : Md) (w : World) (e : Ending) (w' : World) : Prop :=
 (m.planC = 0 ∧ ∃ g L, e = .returned (.tuple #[.slice (some ⟨g, 0, none⟩) L.length L.length, .nilIface]) ∧ FileIs m L ∧ Blk w' g 5 (L.map byt).toArray ∧ w.heap.size ≤ g ∧ Grow w w') ∨
 (m.planC ≠ 0 ∧ e = .returned (.tuple #[.slice none 0 0, .iface 81 (.int .i64 (m.planC : Nat))]) ∧ Grow w w')
set_option maxHeartbeats 4000000 in
theorem encode_any (m : Md) (ok : m.Ok) (A1 A2 : Option Addr) (n1 c1 n2 c2 : Nat) (w : World) (g1 : ZR sgK w w.heap.size A1 n1 c1 m.segs) (g2 : ZR seK w w.heap.size A2 n2 c2 m.secs) :
  Calls Tryz.prog 8 #[.agg (mdC m (.slice A1 n1 c1) (.slice A2 n2 c2))] w (EncR m w) := by
 have HO := hid (fun W (hg : Grow w W) => of_any m ok A1 A2 n1 c1 n2 c2 W (g1.grow hg) (g2.grow hg))
 have HW := hid (fun (h0 : m.planC = 0) W (hg : Grow w W) A3 n3 c3 A4 n4 c4 p1 p2 => write_any m ⟨ok, h0, g1.owns, g2.owns⟩ A1 A2 A3 A4 n1 c1 n2 c2 n3 c3 n4 c4 W (g1.grow hg) (g2.grow hg) p1 p2)
 have HD : Hid (m.planC = 0 → m.planD = ⟨m.phoff, m.shoff, m.eT, (List.range m.segs.length).map m.P2, (List.range m.secs.length).map m.P3⟩) := hid fun h => by unfold Md.planD; rw [if_pos h]
 have HF : Hid (∀ L, FileIs m L → FileIs m L) := hid fun L h => h
 unfold OfR PlanR at HO
 unfold WriteR at HW
 unfold EncR
 clear g1 g2 ok
 obtain ⟨x0, x1, x2, x3, x4, x5, x6, x7, x10, hC⟩ : ∃ x0 x1 x2 x3 x4 x5 x6 x7 x10 : Value, mdC m (.slice A1 n1 c1) (.slice A2 n2 c2) = #[x0, x1, x2, x3, x4, x5, x6, x7, .slice A1 n1 c1, .slice A2 n2 c2, x10] := ⟨_, _, _, _, _, _, _, _, _, rfl⟩
 rw [hC] at HO HW ⊢
 clear hC HF
 obtain ⟨C, hCe⟩ : ∃ C, m.planC = C := ⟨_, rfl⟩
 have HCe := hid hCe
 rw [hCe] at HO HW HD ⊢
 clear hCe
 go_enter Tryz.func8, Tryz.ntmps8
 go_wp2_with fail
 generalize hW : World.alloc _ _ = W0
 obtain ⟨b0, hg⟩ := blk1 hW
 clear hW
 refine (HO.out _ hg).mono ?_
 rintro e w1 ⟨cs, rfl, ⟨A, n, c, A', n', c', rfl, h1, h2⟩, hg1⟩
 have HM := hid (b0.grow hg1)
 have HG : Hid (Grow w w1) := hid (hg.trans hg1)
 have HN1 := hid h1
 have HN2 := hid h2
 clear b0 hg hg1 h1 h2 HO
 by_cases h0 : C = 0
 ·rw [h0, eC_zero]
  rw [h0] at HW HD
  have hD := HD.out rfl
  rw [hD] at HN1 HN2 ⊢
  simp only [] at HN1 HN2 ⊢
  have HW2 := hid (HW.out rfl)
  have HC0 : Hid (C = 0) := hid h0
  clear h0 hD HD HW HCe
  generalize m.phoff = ph at HW2 ⊢
  generalize m.shoff = sh at HW2 ⊢
  generalize hT : m.eT = T at HW2 ⊢
  clear hT
  have hal := Grow.of_alloc w1 (.cells #[.int .u64 (ph : Int), .int .u64 (sh : Int), .int .u64 (T : Int), .slice A n c, .slice A' n' c'] 61)
  have HMa := hid (HM.out.grow hal)
  have HGa : Hid (Grow w (w1.alloc (.cells #[.int .u64 (ph : Int), .int .u64 (sh : Int), .int .u64 (T : Int), .slice A n c, .slice A' n' c'] 61))) := hid (HG.out.trans hal)
  have HN1a := hid ((HN1.out.belowAt hal (Nat.le_refl _)).more hal.size)
  have HN2a := hid ((HN2.out.belowAt hal (Nat.le_refl _)).more hal.size)
  clear hal HM HG HN1 HN2
  obtain ⟨v0, v1, v2, v3, v4, v5, v6, v7, v8, v9, v10⟩ := HMa.out.c11
  go_wp2_with fail
  clear v0 v1 v2 v3 v4 v5 v6 v7 v8 v9 v10
  refine (HW2.out _ HGa.out _ _ _ _ _ _ HN1a.out HN2a.out).mono ?_
  rintro e w3 ⟨g, L, rfl, hf, hb, hge, hg⟩
  have HFi := hid hf
  have HBl := hid hb
  have HGe : Hid (w.heap.size ≤ g) := hid (Nat.le_trans HGa.out.size hge)
  have HG3 : Hid (Grow w w3) := hid (HGa.out.trans hg)
  clear hf hb hge hg HMa HGa HN1a HN2a HW2
  go_wp2
  go_ret2
  exact .inl ⟨HC0.out, g, L, rfl, HFi.out, HBl.out, HGe.out, HG3.out⟩
 ·rw [eC_some h0]
  have HC0 : Hid (C ≠ 0) := hid h0
  clear h0 HD HW HN1 HN2
  generalize m.planD = D
  go_wp2
  go_ret2
  exact .inr ⟨HC0.out, rfl, HG.out.trans (Grow.of_alloc _ _)⟩
set_option maxRecDepth 100000
theorem Blk.rb {w : World} {g : Nat} {t : TypeId} {l : List UInt8} (h : Blk w g t (l.map byt).toArray) (hm : l.length ≤ maxLen) : RB w w.heap.size (some ⟨g, 0, none⟩) l.length l.length l :=
 ⟨rfl, Nat.le_refl _, hm, fun _ => ⟨g, 0, rfl, h.lt, fun j hj => by
  rw [Nat.zero_add, h.at j]
  simp [byt, hj]⟩⟩
def BackR (m : Md) (w : World) (e : Ending) (w' : World) : Prop :=
 ∃ A1 n1 c1 A2 n2 c2, e = .returned (.tuple #[.agg (mdC m (.slice A1 n1 c1) (.slice A2 n2 c2)), .nilIface]) ∧ ZR sgK w' w'.heap.size A1 n1 c1 m.segs ∧ ZR seK w' w'.heap.size A2 n2 c2 m.secs ∧ Grow w w'
theorem parse_back (m : Md) (h : Good m) (L r : List UInt8) (hf : FileIs m L) (hl : (L ++ r).length ≤ 65536) (A : Option Addr) (n c : Nat) (w : World) (hr : RB w w.heap.size A n c (L ++ r)) (hd : Door w) :
  Calls Tryz.prog 11 #[.slice A n c] w (BackR m w) := by
 refine Calls.mono (parse_any _ A n c w hr hd) ?_
 rintro e w' ⟨c, p, m', v, A1, n1, c1, A2, n2, c2, rfl, ht, he, z1, z2, hg⟩
 obtain ⟨rfl, rfl, rfl⟩ := ht.one ((wrote_of h hf hl).back (fun i hi => h.pgFits hi) (fun i hi => h.scFits hi))
 rcases he with ⟨_, _, rfl⟩ | ⟨h0, _⟩
 ·exact ⟨A1, n1, c1, A2, n2, c2, rfl, z1, z2, hg⟩
 ·omega
theorem ptold_nil {c p : Nat} {m : Md} (h : PTold [] c p m) : c = 2 ∧ p = 0 ∧ m = mdN := by
 have key : ∀ {c p : Nat} {v : Value}, HTold [] c p v → c = 2 ∧ p = 0 := fun h => by
  rcases h with ⟨h0, h1, _⟩ | ⟨h1, _⟩
  ·rcases h1 with ⟨h, _⟩ | ⟨h, h', _⟩ | ⟨_, _, _, h, _⟩
   ·omega
   ·exact ⟨h, h'⟩
   ·simp at h
  ·rcases h1 with ⟨_, _, _, h⟩ | ⟨h, _⟩ | ⟨h, _⟩
   ·simp at h
   ·omega
   ·omega
 rcases h with ⟨h, _⟩ | ⟨_, _, h, _⟩ | ⟨_, h, _⟩
 ·simp at h
 ·rename_i e
  exact ⟨(key h).1, (key h).2, e⟩
 ·exact absurd (key h).1 (by decide)
theorem parse_nil (w : World) (hd : Door w) : Calls Tryz.prog 11 #[.slice none 0 0] w fun e w' => ∃ A1 c1 A2 c2 v, e = .returned (.tuple #[.agg #[.bool false, .bool false, .int .u8 0, .int .u8 0, .int .u16 0, .int .u16 0, .int .u32 0, .int .u64 0, .slice A1 0 c1, .slice A2 0 c2, .int .i64 0], v]) ∧ Err w' v 2 0 ∧ Grow w w' := by
 refine Calls.mono (parse_any [] none 0 0 w RB.nil hd) ?_
 rintro e w' ⟨c, p, m', v, A1, n1, c1, A2, n2, c2, rfl, ht, he, z1, z2, hg⟩
 obtain ⟨rfl, rfl, rfl⟩ := ptold_nil ht
 obtain rfl : n1 = 0 := z1.len
 obtain rfl : n2 = 0 := z2.len
 exact ⟨A1, c1, A2, c2, v, rfl, he, hg⟩
def md2 : Md := ⟨false, false, 0, 0, 2, 0, 0, 0, [], [], 0⟩
theorem md2_ok : md2.Ok := ⟨by simp [md2], by simp [md2], by simp [md2], by simp [md2], by simp [md2], by simp [md2], by simp [md2], by simp [md2], by unfold I64; simp [md2]⟩
theorem md2_plan : md2.planC = 0 := by decide
theorem md2_eT : md2.eT = 52 := by decide
theorem md2_good : Good md2 := ⟨md2_ok, md2_plan, fun s hs => absurd hs (by simp [md2]), fun s hs => absurd hs (by simp [md2])⟩
theorem encode2 (w : World) : Calls Tryz.prog 8 #[.agg #[.bool false, .bool false, .int .u8 0, .int .u8 0, .int .u16 2, .int .u16 0, .int .u32 0, .int .u64 0, .slice none 0 0, .slice none 0 0, .int .i64 0]] w fun e w' =>
  ∃ g L, e = .returned (.tuple #[.slice (some ⟨g, 0, none⟩) 52 52, .nilIface]) ∧ FileIs md2 L ∧ RB w' w'.heap.size (some ⟨g, 0, none⟩) 52 52 L ∧ Grow w w' := by
 refine Calls.mono (encode_any md2 md2_ok none none 0 0 0 0 w ZR.nil ZR.nil) ?_
 rintro e w' (⟨_, g, L, rfl, hf, hb, _, hg⟩ | ⟨h, _⟩)
 ·have hl : L.length = 52 := hf.2.trans md2_eT
  have := hb.rb (by rw [hl]; decide)
  rw [hl] at this ⊢
  exact ⟨g, L, rfl, hf, this, hg⟩
 ·exact absurd md2_plan h
theorem parse2 (L : List UInt8) (hf : FileIs md2 L) (A : Option Addr) (w : World) (hr : RB w w.heap.size A 52 52 L) (hd : Door w) : Calls Tryz.prog 11 #[.slice A 52 52] w fun e w' =>
  ∃ A1 c1 A2 n2 c2, e = .returned (.tuple #[.agg #[.bool false, .bool false, .int .u8 0, .int .u8 0, .int .u16 2, .int .u16 0, .int .u32 0, .int .u64 0, .slice A1 0 c1, .slice A2 n2 c2, .int .i64 0], .nilIface]) ∧ Grow w w' := by
 refine Calls.mono (parse_back md2 md2_good L [] hf (by rw [List.append_nil, hf.2, md2_eT]; decide) A 52 52 w (by rw [List.append_nil]; exact hr) hd) ?_
 rintro e w' ⟨A1, n1, c1, A2, n2, c2, rfl, z1, z2, hg⟩
 obtain rfl : n1 = 0 := z1.len
 exact ⟨A1, c1, A2, n2, c2, rfl, hg⟩
set_option maxHeartbeats 4000000 in
theorem up16 (w : World) (hd : Door w) : Calls Tryz.prog 6 #[] w fun e w' => e = .returned (.bool true) ∧ Grow w w' := by
 have HD := hid hd
 clear hd
 go_enter Tryz.func6, Tryz.ntmps6
 go_wp2_with fail
 refine (parse_nil _ HD.out).mono ?_
 rintro e w1 ⟨A1, c1, A2, c2, v, rfl, he, hg1⟩
 have HE := hid he
 have HG1 := hid hg1
 clear he hg1
 go_wp2_with fail
 generalize hW : World.alloc _ _ = W1
 obtain ⟨b1, hg2⟩ := blk1 hW
 clear hW b1
 have HE1 := hid (HE.out.grow hg2)
 have HG2 : Hid (Grow w W1) := HG1.out.trans hg2
 clear hg2 HG1 HE
 refine (spot_any v 2 0 W1 HE1.out (by decide) (by decide)).mono ?_
 rintro e w2 ⟨rfl, hg3⟩
 have HG3 : Hid (Grow w w2) := HG2.out.trans hg3
 clear hg3 HG2 HE1
 go_wp2_with fail
 refine (encode2 _).mono ?_
 rintro e w3 ⟨g, L, rfl, hf, hr, hg4⟩
 have HF := hid hf
 have HR := hid hr
 have HG4 : Hid (Grow w w3) := HG3.out.trans hg4
 have HD4 := hid (HD.out.grow HG4.out)
 clear hf hr hg4 HG3 HD
 go_wp2_with fail
 refine (parse2 L HF.out _ _ HR.out HD4.out).mono ?_
 rintro e w4 ⟨A3, c3, A4, n4, c4, rfl, hg5⟩
 have HG5 : Hid (Grow w w4) := HG4.out.trans hg5
 clear hg5 HG4 HR HF HD4
 go_wp2
 go_ret
 exact ⟨rfl, HG5.out.trans (Grow.of_alloc _ _)⟩
def Md.sum (m : Md) : Nat := (m.segs.map fun s => s.pl.own.length).sum + (m.secs.map fun s => s.pl.own.length).sum
def Md.few (m : Md) : Nat := if 20 < m.segs.length then 0 else if 70 < m.secs.length then 0 else if 100000 < m.sum then 0 else 1
theorem sum_snoc {α : Type} (f : α → Nat) (l : List α) (k : Nat) (h : k < l.length) : ((l.take (k + 1)).map f).sum = ((l.take k).map f).sum + f l[k] := by
 rw [takeS l k h, List.map_append, List.sum_append]
 simp
theorem sum_le {α : Type} (f : α → Nat) (b : Nat) : ∀ (l : List α), (∀ a ∈ l, f a ≤ b) → (l.map f).sum ≤ l.length * b
 | [], _ => by simp
 | a :: r, h => by
  have := sum_le f b r fun x hx => h x (List.mem_cons_of_mem _ hx)
  have := h a (by simp)
  simp only [List.map_cons, List.sum_cons, List.length_cons, Nat.succ_mul]
  omega
theorem sum_take_le {α : Type} (f : α → Nat) (l : List α) (k : Nat) : ((l.take k).map f).sum ≤ (l.map f).sum := by
 have : (l.map f).sum = ((l.take k).map f).sum + ((l.drop k).map f).sum := by
  rw [← List.sum_append, ← List.map_append, List.take_append_drop]
 omega
set_option maxHeartbeats 1000000 in
theorem few_any (m : Md) (A1 A2 : Option Addr) (n1 c1 n2 c2 : Nat) (w : World) (g1 : ZR sgK w w.heap.size A1 n1 c1 m.segs) (g2 : ZR seK w w.heap.size A2 n2 c2 m.secs) (hsm0 : n1 ≤ 20 → n2 ≤ 70 → m.sum ≤ 4000000000000000000) :
  Calls Tryz.prog 7 #[.agg (mdC m (.slice A1 n1 c1) (.slice A2 n2 c2))] w fun e w' => e = .returned (.int .i64 (m.few : Nat)) ∧ Grow w w' := by
 obtain ⟨x0, x1, x2, x3, x4, x5, x6, x7, x10, hC⟩ : ∃ x0 x1 x2 x3 x4 x5 x6 x7 x10 : Value, mdC m (.slice A1 n1 c1) (.slice A2 n2 c2) = #[x0, x1, x2, x3, x4, x5, x6, x7, .slice A1 n1 c1, .slice A2 n2 c2, x10] := ⟨_, _, _, _, _, _, _, _, _, rfl⟩
 rw [hC]
 have hm1 := g1.max
 have hc1 := g1.cap
 have hm2 := g2.max
 have hc2 := g2.cap
 have HZ1 := hid g1
 have HZ2 := hid g2
 have HL1 := hid g1.len
 have HL2 := hid g2.len
 have E := hid (show m.few = if 20 < n1 then 0 else if 70 < n2 then 0 else if 100000 < m.sum then 0 else 1 by rw [g1.len, g2.len]; rfl)
 have ES : Hid (m.sum = (m.segs.map fun s => s.pl.own.length).sum + (m.secs.map fun s => s.pl.own.length).sum) := hid rfl
 generalize m.few = R at E ⊢
 generalize m.sum = S at E ES hsm0
 generalize m.segs = L1 at HZ1 HL1 ES
 generalize m.secs = L2 at HZ2 HL2 ES
 have HA : Hid (∀ k, ((L1.take k).map fun s => s.pl.own.length).sum ≤ S) := hid fun k => by
  have := sum_take_le (fun s : Sg => s.pl.own.length) L1 k
  have := ES.out
  omega
 have HB : Hid (∀ k, (L1.map fun s => s.pl.own.length).sum + ((L2.take k).map fun s => s.pl.own.length).sum ≤ S) := hid fun k => by
  have := sum_take_le (fun s : Se => s.pl.own.length) L2 k
  have := ES.out
  omega
 clear hC g1 g2
 unfold maxLen at hm1 hm2
 by_cases h1 : 20 < n1
 ·have E2 := hid (show R = 0 by rw [E.out, if_pos h1])
  go_enter Tryz.func7, Tryz.ntmps7
  go_wp2
  go_ret
  exact ⟨by rw [E2.out]; rfl, Grow.of_alloc _ _⟩
 rw [if_neg h1] at E
 have d1 : decide (20 < n1) = false := decide_eq_false h1
 have d1' : decide ((20 : Int) < (n1 : Int)) = false := decide_eq_false (by omega)
 by_cases h2 : 70 < n2
 ·have E2 := hid (show R = 0 by rw [E.out, if_pos h2])
  clear h1
  go_enter Tryz.func7, Tryz.ntmps7
  go_wp2
  go_ret
  exact ⟨by rw [E2.out]; rfl, Grow.of_alloc _ _⟩
 rw [if_neg h2] at E
 have d2 : decide (70 < n2) = false := decide_eq_false h2
 have d2' : decide ((70 : Int) < (n2 : Int)) = false := decide_eq_false (by omega)
 have HH : Hid (n1 ≤ 20 ∧ n2 ≤ 70) := hid ⟨by omega, by omega⟩
 have hsm := hsm0 (by omega) (by omega)
 clear h1 h2 hsm0
 go_enter Tryz.func7, Tryz.ntmps7
 go_wp2_with fail
 clear d1 d1' d2 d2'
 generalize hW : World.alloc _ _ = W0
 obtain ⟨b1, hg0⟩ := blk1 hW
 clear hW
 have HB1 := hid b1
 have HG0 := hid hg0
 have y8 := b1.at 8
 clear b1 hg0
 go_loop [3, 4] (fun x i => ∃ (k : Nat) (t : Nat), k ≤ n1 ∧ i = .int .i64 k ∧ x = .int .i64 (t : Nat) ∧ Hid (t = ((L1.take k).map fun s => s.pl.own.length).sum)) (fun _ i => n1 - (intOf i).toNat)
 case atStart => exact ⟨0, 0, by omega, rfl, rfl, hid (by simp)⟩
 case round =>
  obtain ⟨k, t, hk, rfl, rfl, HT⟩ := hrel
  by_cases hlt : k < n1
  ·have hkl : k < L1.length := by rw [← HL1.out]; exact hlt
   obtain ⟨b, off, rfl, hb⟩ := HZ1.out.pos (by omega)
   obtain ⟨Ak, nk, ck, -, hcell, gk⟩ := HZ1.out.at hkl
   have t9 : W0.cell? ⟨b, off + k * 10 + 9, none⟩ = some (.slice Ak nk ck) := (Below.cell HG0.out hb).trans (hcell 9 _ rfl)
   have HS := hid (sum_snoc (fun s : Sg => s.pl.own.length) L1 k hkl)
   have hnk : L1[k].pl.own.length = nk := gk.len.symm
   have hle := HA.out (k + 1)
   rw [HS.out, ← HT.out] at hle
   simp only [hnk] at HS hle
   rw [← HT.out] at HS
   clear hcell gk hb hnk
   have z : IntKind.i64.wrap ((t : Int) + (nk : Int)) = ((t + nk : Nat) : Int) := by rw [IntKind.wrap_i64]; omega
   go_wp2
   go_round
   case rel => exact ⟨k + 1, t + nk, by omega, by go_num, by first | rfl | simp, hid HS.out.symm⟩
   case measure => simp [intOf]; omega
  ·obtain rfl : n1 = k := by omega
   have HT1 : Hid (t = (L1.map fun s => s.pl.own.length).sum) := by
    have : L1.take n1 = L1 := by rw [List.take_of_length_le (by have := HL1.out; omega)]
    have h := HT.out
    rw [this] at h
    exact h
   have y9 := HB1.out.at 9
   clear HT
   go_wp2_with fail
   clear y8
   go_loop [3, 5] (fun x i => ∃ (k : Nat) (t' : Nat), k ≤ n2 ∧ i = .int .i64 k ∧ x = .int .i64 (t' : Nat) ∧ Hid (t' = t + ((L2.take k).map fun s => s.pl.own.length).sum)) (fun _ i => n2 - (intOf i).toNat)
   case atStart => exact ⟨0, t, by omega, rfl, rfl, hid (by simp)⟩
   case round =>
    obtain ⟨k, t', hk, rfl, rfl, HT⟩ := hrel
    by_cases hlt : k < n2
    ·have hkl : k < L2.length := by rw [← HL2.out]; exact hlt
     obtain ⟨b, off, rfl, hb⟩ := HZ2.out.pos (by omega)
     obtain ⟨Ak, nk, ck, -, hcell, gk⟩ := HZ2.out.at hkl
     have t9 : W0.cell? ⟨b, off + k * 13 + 12, none⟩ = some (.slice Ak nk ck) := (Below.cell HG0.out hb).trans (hcell 12 _ rfl)
     have HS := hid (sum_snoc (fun s : Se => s.pl.own.length) L2 k hkl)
     have hnk : L2[k].pl.own.length = nk := gk.len.symm
     have hle := HB.out (k + 1)
     rw [HS.out, ← HT1.out, ← Nat.add_assoc, ← HT.out] at hle
     simp only [hnk] at HS hle
     have HS2 : Hid (t' + nk = t + ((L2.take (k + 1)).map fun s => s.pl.own.length).sum) := hid (by rw [HS.out, ← Nat.add_assoc, ← HT.out])
     clear hcell gk hb hnk HS
     have z : IntKind.i64.wrap ((t' : Int) + (nk : Int)) = ((t' + nk : Nat) : Int) := by rw [IntKind.wrap_i64]; omega
     go_wp2
     go_round
     case rel => exact ⟨k + 1, t' + nk, by omega, by go_num, by first | rfl | simp, HS2⟩
     case measure => simp [intOf]; omega
    ·obtain rfl : n2 = k := by omega
     have HS : Hid (t' = S) := by
      have : L2.take n2 = L2 := by rw [List.take_of_length_le (by have := HL2.out; omega)]
      have h := HT.out
      rw [this, HT1.out, ← ES.out] at h
      exact h
     by_cases hb : 100000 < t'
     ·have E2 := hid (show R = 0 by rw [E.out, ← HS.out, if_pos hb])
      have d : decide (100000 < t') = true := decide_eq_true hb
      have d' : decide ((100000 : Int) < (t' : Int)) = true := decide_eq_true (by omega)
      clear hb
      go_wp2
      go_ret
      exact ⟨by rw [E2.out]; rfl, HG0.out⟩
     ·have E2 := hid (show R = 1 by rw [E.out, ← HS.out, if_neg hb])
      have d : decide (100000 < t') = false := decide_eq_false hb
      have d' : decide ((100000 : Int) < (t' : Int)) = false := decide_eq_false (by omega)
      clear hb
      go_wp2
      go_ret
      exact ⟨by rw [E2.out]; rfl, HG0.out⟩
theorem fstC_le {α : Type} {f : α → Nat} {b : Nat} (h : ∀ a, f a ≤ b) : ∀ l : List α, fstC f l ≤ b
 | [] => Nat.zero_le _
 | a :: r => by
  rw [fstC]
  split
  ·exact fstC_le h r
  ·exact h a
theorem Md.chk_le (m : Md) : m.chk ≤ 12 := by
 have h1 : ∀ s, m.segC s ≤ 12 := fun s => by unfold Md.segC; repeat (first | (split; omega) | omega | split)
 have h2 : ∀ s, m.secC s ≤ 12 := fun s => by unfold Md.secC; repeat (first | (split; omega) | omega | split)
 have h3 : m.segsC ≤ 12 := by
  unfold Md.segsC
  split
  ·split <;> omega
  ·exact fstC_le h1 _
 have h4 : m.secsC ≤ 12 := fstC_le h2 _
 have h5 : m.namesC ≤ 12 := by unfold Md.namesC; repeat (first | (split; omega) | omega | split)
 unfold Md.chk
 repeat (first | (split; omega) | omega | split)
theorem Md.planC_le (m : Md) : m.planC ≤ 12 := by
 have := m.chk_le
 unfold Md.planC
 split
 ·exact this
 ·split <;> omega
theorem code_of (c : Nat) (h : c ≤ 12) (w : World) : Calls Tryz.prog 10 #[eC c] w fun e w' => e = .returned (.int .i64 c) ∧ w = w' := by
 by_cases h0 : c = 0
 ·subst h0
  exact code_nil w
 ·rw [eC_some h0]
  exact code_some c (by omega) h w
theorem sum_small {m : Md} {n1 n2 : Nat} (l1 : n1 = m.segs.length) (l2 : n2 = m.secs.length) (hs1 : ∀ s ∈ m.segs, s.pl.own.length ≤ reachBytes) (hs2 : ∀ s ∈ m.secs, s.pl.own.length ≤ reachBytes) :
  n1 ≤ 20 → n2 ≤ 70 → m.sum ≤ 4000000000000000000 := fun h1 h2 => by
 have q1 := sum_le (fun s : Sg => s.pl.own.length) reachBytes m.segs hs1
 have q2 := sum_le (fun s : Se => s.pl.own.length) reachBytes m.secs hs2
 have e1 : m.segs.length * reachBytes ≤ 20 * reachBytes := Nat.mul_le_mul_right _ (by omega)
 have e2 : m.secs.length * reachBytes ≤ 70 * reachBytes := Nat.mul_le_mul_right _ (by omega)
 unfold Md.sum
 unfold reachBytes at q1 q2 e1 e2
 omega
set_option maxRecDepth 100000
theorem htold_le {l : List UInt8} {c p : Nat} {v : Value} (h : HTold l c p v) (hl : l.length ≤ 65536) : c ≤ 4 ∧ p ≤ 65536 := by
 rcases h with ⟨_, h, _⟩ | ⟨_, h, _⟩
 ·rcases h with ⟨h1, h2, _⟩ | ⟨h1, h2, _⟩ | ⟨_, h2, _, h3, h4⟩
  ·omega
  ·omega
  ·have := faultN_le p l[p]
   omega
 ·rcases h with ⟨_, h1, h2⟩ | ⟨_, _, h1, h2⟩ | ⟨_, h1, k, _, _, _, h2⟩
  ·omega
  ·omega
  ·have h3 : sumN (hRow (lWide l)) ≤ 100 := by cases lWide l <;> decide
   have h4 := sumN_le (hRow (lWide l)) k
   omega
theorem pair_le {x : Nat × Nat} {a b : Nat} (h : x = (a, b)) {m n : Nat} (h1 : a ≤ m) (h2 : b ≤ n) : x.1 ≤ m ∧ x.2 ≤ n := by subst h; exact ⟨h1, h2⟩
theorem cntE_le (l : List UInt8) : (cntE l).1 ≤ 8 ∧ (cntE l).2 ≤ 65536 := by
 have o1 : oSh (lWide l) ≤ 62 := by cases lWide l <;> decide
 have o2 : oSn (lWide l) ≤ 62 := by cases lWide l <;> decide
 have o3 : oPn (lWide l) ≤ 62 := by cases lWide l <;> decide
 have o4 : oPh (lWide l) ≤ 62 := by cases lWide l <;> decide
 have o5 : oSt (lWide l) ≤ 62 := by cases lWide l <;> decide
 have h1 : (scE l).1 ≤ 8 ∧ (scE l).2 ≤ 65536 := by
  unfold scE
  repeat' split
  all_goals exact ⟨by simp, by simp; try omega⟩
 have h2 : (pgE l).1 ≤ 8 ∧ (pgE l).2 ≤ 65536 := by
  unfold pgE
  repeat' split
  all_goals exact ⟨by simp, by simp; try omega⟩
 unfold cntE
 split
 ·exact ⟨by simp, by simp; omega⟩
 split
 ·exact h1
 split
 ·exact h2
 split
 ·exact ⟨by simp, by simp; omega⟩
 ·exact ⟨by simp, by simp⟩
theorem tabE_le {l : List UInt8} (h0 : (cntE l).1 = 0) (hl : l.length ≤ 65536) : (tabE l).1 ≤ 8 ∧ (tabE l).2 ≤ 65536 := by
 have p1 : ∀ k, k < nP l → pBad l k ≤ 65537 := fun k hk => by
  have := pAt_in h0 hk
  unfold pBad
  split <;> omega
 have p2 : ∀ k, k < nS l - 1 → sBad l k ≤ 65537 := fun k hk => by
  have := sAt_in h0 (show k + 1 < nS l by omega)
  unfold sBad
  split <;> omega
 have key : ∀ (f : Nat → Nat) (n : Nat), (∀ k, k < n → f k ≤ 65537) → fstC f (List.range n) ≤ 65537 := fun f n h => by
  rcases Nat.eq_zero_or_pos (fstC f (List.range n)) with e | e
  ·omega
  ·by_cases hz : ∀ k, k < n → f k = 0
   ·rw [fst_none hz] at e; omega
   ·have : ∃ k, k < n ∧ (∀ j, j < k → f j = 0) ∧ f k ≠ 0 := by
     obtain ⟨k0, hk0⟩ : ∃ k, ¬ (k < n → f k = 0) := Classical.not_forall.1 hz
     have hk1 : k0 < n ∧ f k0 ≠ 0 := by
      constructor
      ·exact Classical.byContradiction fun h => hk0 fun h' => absurd h' h
      ·exact fun h => hk0 fun _ => h
     induction k0 using Nat.strongRecOn with
     | _ k0 ih =>
      by_cases hq : ∀ j, j < k0 → f j = 0
      ·exact ⟨k0, hk1.1, hq, hk1.2⟩
      ·obtain ⟨j, hj⟩ : ∃ j, ¬ (j < k0 → f j = 0) := Classical.not_forall.1 hq
       have hj1 : j < k0 ∧ f j ≠ 0 := by
        constructor
        ·exact Classical.byContradiction fun h => hj fun h' => absurd h' h
        ·exact fun h => hj fun _ => h
       exact ih j hj1.1 (fun h => hj1.2 (h (by omega))) ⟨by omega, hj1.2⟩
    obtain ⟨k, h1, h2, h3⟩ := this
    rw [fst_range h1 h2 h3]
    exact h k h1
 have k1 := key _ _ p1
 have k2 := key _ _ p2
 unfold tabE
 split
 ·exact ⟨by simp, by simp; omega⟩
 split
 ·exact ⟨by simp, by simp; omega⟩
 ·exact ⟨by simp, by simp⟩
theorem ptold_le {l : List UInt8} {c p : Nat} {m : Md} (h : PTold l c p m) : c < 100 ∧ p < 100000 := by
 rcases h with ⟨_, rfl, rfl, _⟩ | ⟨hl, _, h, _⟩ | ⟨hl, _, h, _⟩
 ·exact ⟨by decide, by decide⟩
 ·have := htold_le h hl
  omega
 ·have h1 := cntE_le l
  have h3 := (mdF l).planC_le
  unfold restE at h
  split at h
  ·rw [h] at h1
   simp only [] at h1
   omega
  ·rename_i h0
   have h2 := tabE_le (l := l) (by omega) hl
   split at h
   ·rw [h] at h2
    simp only [] at h2
    omega
   ·split at h
    ·injection h with a b; omega
    ·injection h with a b; omega
set_option maxHeartbeats 8000000 in
theorem fileParses_core (A : Option Addr) (n c : Nat) (l : List UInt8) (w : World) (hr : RB w w.heap.size A n c l) (hd : Door w) :
  Calls Tryz.prog 4 #[.slice A n c] w fun e w' => e = .returned (.bool true) ∧ Grow w w' := by
 have HP := hid (fun (w' : World) (hg : Grow w w') => parse_any l A n c w' (hr.grow hg) (hd.grow hg))
 have HR := hid (fun (w' : World) (hg : Grow w w') => rParse_any l A n c w' (hr.grow hg))
 have HD := hid hd
 have hcp := hr.cap
 have hmx := hr.max
 unfold maxLen at hmx
 unfold ParseR at HP
 unfold RParseR at HR
 clear hr hd
 go_enter Tryz.func4, Tryz.ntmps4
 go_wp2_with fail
 refine (up16 _ HD.out).mono ?_
 rintro e w1 ⟨rfl, hg⟩
 have HG1 := hid hg
 clear hg HD
 by_cases hn : 70000 < n
 ·have d2 : decide ((70000 : Int) < (n : Int)) = true := decide_eq_true (by omega)
  have d2' : decide (70000 < n) = true := decide_eq_true hn
  go_wp2
  go_ret
  exact ⟨rfl, HG1.out⟩
 have d2 : decide ((70000 : Int) < (n : Int)) = false := decide_eq_false (by omega)
 have d2' : decide (70000 < n) = false := decide_eq_false hn
 go_wp2_with fail
 clear d2 d2' hn
 refine (HP.out _ HG1.out).mono ?_
 rintro e w2 ⟨cd, p, m, v, A1, n1, c1, A2, n2, c2, rfl, ht, he, z1, z2, hg⟩
 have HT := hid ht
 have HE := hid he
 have HZ1 := hid z1
 have HZ2 := hid z2
 have HG2 : Hid (Grow w w2) := hid (HG1.out.trans hg)
 clear ht he z1 z2 hg HP HG1
 have HSm := hid (fun W (hg : Grow w2 W) A3 A4 n3 c3 n4 c4 h3 h4 => rSame_any m A1 A2 A3 A4 n1 c1 n2 c2 n3 c3 n4 c4 W ((HZ1.out.belowAt hg (Nat.le_refl _)).more hg.size) ((HZ2.out.belowAt hg (Nat.le_refl _)).more hg.size) h3 h4)
 have HTw := hid (fun c' p' m' (h' : PTold l c' p' m') => HT.out.one h')
 have HLe := hid (ptold_le HT.out)
 clear HZ1 HZ2 HT
 obtain ⟨x0, x1, x2, x3, x4, x5, x6, x7, x10, hC, hO⟩ : ∃ x0 x1 x2 x3 x4 x5 x6 x7 x10 : Value, (∀ s t, mdC m s t = #[x0, x1, x2, x3, x4, x5, x6, x7, s, t, x10]) ∧ (∀ p q i r j k, (#[x0, x1, x2, x3, x4, x5, x6, x7, .slice p i k, .slice q j r, x10] : Array Value).all (·.oneCell') = true) := ⟨_, _, _, _, _, _, _, _, _, fun _ _ => rfl, fun _ _ _ _ _ _ => by simp [Value.oneCell']⟩
 have HO := hid hO
 have HC := hid hC
 simp only [hC] at HSm ⊢
 clear hC hO
 go_wp2_with (refine wpList_store_row rfl 32 (.tmp 4) (.tmp 20) rfl w2.heap.size _ rfl rfl _ _ (Blk.new _ _ _) (by kernel_rfl) rfl (HO.out _ _ _ _ _ _) ?_; rw [World.setRow_alloc_new]; refine Hid.out ?_)
 generalize hW : World.alloc _ _ = W3
 obtain ⟨b3, hg⟩ := blk1 hW
 clear hW
 have HX3 := hid b3
 have HE3 := hid (HE.out.grow hg)
 have HG3 : Hid (Grow w W3) := hid (HG2.out.trans hg)
 have HG23 := hid hg
 clear b3 hg HE
 generalize w2.heap.size = g4 at HX3 ⊢
 refine hid ?_
 go_wp2_with fail
 refine (HR.out _ HG3.out).mono ?_
 rintro e w4 ⟨cd', p', m', A3, n3, c3, A4, n4, c4, rfl, ht, z3, z4, hg⟩
 obtain ⟨rfl, rfl, rfl⟩ := HTw.out _ _ _ ht
 have HZ3 := hid z3
 have HZ4 := hid z4
 have HX4 := hid (HX3.out.grow hg)
 have HE4 := hid (HE3.out.grow hg)
 have HG4 : Hid (Grow w w4) := hid (HG3.out.trans hg)
 have HG24 : Hid (Grow w2 w4) := hid (HG23.out.trans hg)
 clear ht z3 z4 hg HX3 HE3 HG3 HG23 HR HTw HG2
 rw [HC.out]
 go_wp2_with (refine wpList_store_row rfl 32 (.tmp 6) (.tmp 25) rfl w4.heap.size _ rfl rfl _ _ (Blk.new _ _ _) (by kernel_rfl) rfl (HO.out _ _ _ _ _ _) ?_; rw [World.setRow_alloc_new]; refine Hid.out ?_)
 generalize hW : World.alloc _ _ = W5
 obtain ⟨b5, hg⟩ := blk1 hW
 clear hW
 have HY5 := hid b5
 have HX5 := hid (HX4.out.grow hg)
 have HE5 := hid (HE4.out.grow hg)
 have HZ35 := hid ((HZ3.out.belowAt hg (Nat.le_refl _)).more hg.size)
 have HZ45 := hid ((HZ4.out.belowAt hg (Nat.le_refl _)).more hg.size)
 have HG5 : Hid (Grow w W5) := hid (HG4.out.trans hg)
 have HG25 : Hid (Grow w2 W5) := hid (HG24.out.trans hg)
 clear b5 hg HX4 HE4 HZ3 HZ4 HG4 HG24
 generalize w4.heap.size = g6 at HY5 ⊢
 refine hid ?_
 go_wp2_with fail
 refine (spot_any v cd p W5 HE5.out HLe.out.1 HLe.out.2).mono ?_
 rintro e w6 ⟨rfl, hg⟩
 have HX6 := hid (HX5.out.grow hg)
 have HY6 := hid (HY5.out.grow hg)
 have HZ36 := hid ((HZ35.out.belowAt hg (Nat.le_refl _)).more hg.size)
 have HZ46 := hid ((HZ45.out.belowAt hg (Nat.le_refl _)).more hg.size)
 have HG6 : Hid (Grow w w6) := hid (HG5.out.trans hg)
 have HG26 : Hid (Grow w2 w6) := hid (HG25.out.trans hg)
 clear hg HX5 HY5 HE5 HZ35 HZ45 HG5 HG25 HLe
 obtain ⟨v0, v1, v2, v3, v4, v5, v6, v7, v8, v9, v10⟩ := HX6.out.c11
 obtain ⟨y0, y1, y2, y3, y4, y5, y6, y7, y8, y9, y10⟩ := HY6.out.c11
 go_wp2_with fail
 clear v0 v1 v2 v3 v4 v5 v6 v7 v8 v9 v10 y0 y1 y2 y3 y4 y5 y6 y7 y8 y9 y10
 refine (HSm.out _ HG26.out _ _ _ _ _ _ HZ36.out HZ46.out).mono ?_
 rintro e w7 ⟨rfl, hg⟩
 have HG7 : Hid (Grow w w7) := hid (HG6.out.trans hg)
 clear hg HX6 HY6 HSm HG6 HG26 HZ36 HZ46
 go_wp2
 go_ret
 exact ⟨rfl, HG7.out⟩
theorem wf_u8 {n : Int} (h : (Lit.int .u8 n).wf = true) : 0 ≤ n ∧ n ≤ 255 := by
 simpa [Lit.wf, IntKind.bits, IntKind.signed] using bounds_u8 h
theorem wf_u64 {n : Int} (h : (Lit.int .u64 n).wf = true) : 0 ≤ n ∧ n ≤ 18446744073709551615 := bounds_u64 h
theorem wf_i64 {n : Int} (h : (Lit.int .i64 n).wf = true) : -9223372036854775808 ≤ n ∧ n ≤ 9223372036854775807 := bounds_i64 h
theorem rb_of_cells (w : World) (x : Addr) (len cap : Nat) (zs : List Int) (hl : len ≤ cap) (hm : cap ≤ maxLen) (hz : zs.length = cap)
  (hcell : ∀ i, i < zs.length → w.cell? (x.add i) = some (.int .u8 (zs.getD i 0))) (hwf : ∀ n ∈ zs, (Lit.int .u8 n).wf = true) :
  RB w w.heap.size (some x) len cap ((zs.take len).map fun n => UInt8.ofNat n.toNat) := by
 refine ⟨by simp; omega, hl, hm, fun hp => ?_⟩
 obtain ⟨b, off, spot⟩ := x
 have h0 := hcell 0 (by omega)
 have hspot : spot = none := by simpa [Addr.add] using World.cell?_spot h0
 subst hspot
 refine ⟨b, off, rfl, ?_, fun j hj => ?_⟩
 ·rcases Nat.lt_or_ge b w.heap.size with h | h
  ·exact h
  ·simp [Addr.add, World.cell?, Array.getElem?_eq_none h] at h0
 ·have hj' : j < len := by simp at hj; omega
  have e2 : (⟨b, off, none⟩ : Addr).add j = ⟨b, off + j, none⟩ := by unfold Addr.add; split <;> simp_all
  rw [← e2, hcell j (by omega)]
  have hjz : j < zs.length := by omega
  have hb := wf_u8 (hwf zs[j] (List.getElem_mem hjz))
  simp only [List.getElem_map, List.getElem_take, List.getD_eq_getElem?_getD, List.getElem?_eq_getElem hjz, Option.getD_some]
  congr 2
  rw [UInt8.toNat_ofNat', Nat.mod_eq_of_lt (by omega)]
  omega
end Go.Proofs.YtlccbekalccahaaGreatDoor
namespace Go.Proofs.YtlccbekalccahaaGreatDoor
open Go.Lib (hid)
open Go.ChangeShapes Go.WideShapes Go.RowKit Go.Joins Go.Deep
set_option maxRecDepth 100000
section
variable {H : Type} {enc : TypeId × Value → H} {w : World} {base : Nat} {spare : Nat → Bool} {held : Bool}
theorem byte_of {x : Int} (hw : (Lit.int .u8 x).wf = true) : ∃ a : UInt8, x = (a.toNat : Int) := by
 have hb := wf_u8 hw
 exact ⟨UInt8.ofNat x.toNat, by rw [UInt8.toNat_ofNat', Nat.mod_eq_of_lt (by omega)]; omega⟩
theorem u8_of_cell {n : Nat} {v : Value} {y : DataW H × List MemPlace} (h : DataW.trod enc Tryz.prog w base spare held n 5 [v] = some y) : ∃ a : UInt8, v = .int .u8 (a.toNat : Int) := by
 obtain ⟨x, hx, _, hw⟩ := DataW.trod_int Tryz.underlying5 h
 obtain ⟨a, rfl⟩ := byte_of hw
 injection hx with hx
 exact ⟨a, hx⟩
theorem open_byte {r : Reach} {b0 : Nat} {v : Value} {d : DataW H} {p : List MemPlace} (hv : Value.okWide Tryz.prog w r b0 5 v) (h : DataW.Trod enc Tryz.prog w base spare held 5 v d p) : ∃ a : UInt8, v = .int .u8 (a.toNat : Int) := by
 obtain ⟨x, rfl, _, _, hw⟩ := open_int Tryz.underlying5 hv h
 obtain ⟨a, rfl⟩ := byte_of hw
 exact ⟨a, rfl⟩
theorem open_i64 {r : Reach} {b0 : Nat} {v : Value} {d : DataW H} {p : List MemPlace} (hv : Value.okWide Tryz.prog w r b0 3 v) (h : DataW.Trod enc Tryz.prog w base spare held 3 v d p) : ∃ a : Int, v = .int .i64 a ∧ -9223372036854775808 ≤ a ∧ a ≤ 9223372036854775807 := by
 obtain ⟨x, rfl, _, _, hw⟩ := open_int Tryz.underlying3 hv h
 exact ⟨x, rfl, wf_i64 hw⟩
theorem u64_of_cell {n : Nat} {v : Value} {y : DataW H × List MemPlace} (h : DataW.trod enc Tryz.prog w base spare held n 28 [v] = some y) : ∃ a : Nat, a < 18446744073709551616 ∧ v = .int .u64 (a : Int) := by
 obtain ⟨x, hx, _, hw⟩ := DataW.trod_int Tryz.underlying28 h
 have := bounds_u64 hw
 injection hx with hx
 exact ⟨x.toNat, by omega, by rw [hx]; congr 1; omega⟩
theorem open_u64 {r : Reach} {b0 : Nat} {v : Value} {d : DataW H} {p : List MemPlace} (hv : Value.okWide Tryz.prog w r b0 28 v) (h : DataW.Trod enc Tryz.prog w base spare held 28 v d p) : ∃ a : Nat, v = .int .u64 a ∧ a < 18446744073709551616 := by
 obtain ⟨x, rfl, _, _, hw⟩ := open_int Tryz.underlying28 hv h
 have hb := bounds_u64 hw
 exact ⟨x.toNat, by congr 1; omega, by omega⟩
theorem open_row {b0 : Nat} {r : Reach} {v : Value} {d : DataW H} {p : List MemPlace} (hv : Value.okWide Tryz.prog w r b0 35 v) (h : DataW.Trod enc Tryz.prog w base (fun _ => true) held 35 v d p) :
  ∃ (A : Option Addr) (n c : Nat) (l : List UInt8), v = .slice A n c ∧ RB w w.heap.size A n c l := by
 obtain ⟨A, n, c, rfl⟩ := okWide_slice Tryz.underlying35 hv
 obtain ⟨fuel, hf⟩ := h
 rcases open_ints Tryz.underlying35 Tryz.underlying5 (by kernel_rfl) hf with ⟨hcs, _⟩ | ⟨a, len', cap', zs, hcs, _, hl, hm, hz, hx, hcell, hwz⟩
 ·simp [Value.cells] at hcs
  obtain ⟨rfl, rfl, rfl⟩ := hcs
  exact ⟨none, 0, 0, [], rfl, RB.nil⟩
 ·simp [Value.cells] at hcs
  obtain ⟨rfl, rfl, rfl⟩ := hcs
  simp only [if_true] at hz
  exact ⟨some a, n, c, _, rfl, rb_of_cells w a n c zs hl hm hz hcell hwz⟩
end
set_option maxRecDepth 100000
section
variable {H : Type} {enc : TypeId × Value → H} {w : World} {base : Nat} {spare : Nat → Bool} {held : Bool}
theorem u32_of_cell {n : Nat} {v : Value} {y : DataW H × List MemPlace} (h : DataW.trod enc Tryz.prog w base spare held n 27 [v] = some y) : ∃ a : Nat, a < 4294967296 ∧ v = .int .u32 (a : Int) := by
 obtain ⟨x, hx, _, hw⟩ := DataW.trod_int Tryz.underlying27 h
 have := bounds_u32 hw
 injection hx with hx
 exact ⟨x.toNat, by omega, by rw [hx]; congr 1; omega⟩
theorem form_of_cells {n : Nat} {c0 c1 : Value} {y : DataW H × List MemPlace} (hf : DataW.trod enc Tryz.prog w base spare held n 23 [c0, c1] = some y) : ∃ wide big : Bool, c0 = .bool wide ∧ c1 = .bool big := by
 obtain ⟨x0, x1, m, _, _, k0, k1⟩ := trod_struct2 Tryz.underlying23 hf
 have k0' : DataW.trod enc Tryz.prog w base spare held m 4 [c0] = some x0 := by
  simpa [show Program.cellsOf Tryz.prog 4 = 1 by kernel_rfl] using k0
 have k1' : DataW.trod enc Tryz.prog w base spare held m 4 [c1] = some x1 := by
  simpa [show Program.cellsOf Tryz.prog 4 = 1 by kernel_rfl] using k1
 obtain ⟨wide, e0, _⟩ := DataW.trod_bool Tryz.underlying4 k0'
 obtain ⟨big, e1, _⟩ := DataW.trod_bool Tryz.underlying4 k1'
 injection e0 with e0
 injection e1 with e1
 exact ⟨wide, big, e0, e1⟩
theorem open_form {r : Reach} {b0 : Nat} {v : Value} {d : DataW H} {p : List MemPlace} (hv : Value.okWide Tryz.prog w r b0 23 v) (h : DataW.Trod enc Tryz.prog w base spare held 23 v d p) :
  ∃ wide big : Bool, v = .agg #[.bool wide, .bool big] := by
 obtain ⟨cs, rfl, hsz⟩ := okWide_struct Tryz.underlying23 hv
 obtain ⟨c0, c1, rfl⟩ := arr2 (hsz.trans (show Program.cellsOf Tryz.prog 23 = 2 by kernel_rfl))
 obtain ⟨fuel, hf⟩ := h
 obtain ⟨wide, big, rfl, rfl⟩ := form_of_cells hf
 exact ⟨wide, big, rfl⟩
end
end Go.Proofs.YtlccbekalccahaaGreatDoor
