/-
  Several texts in one: The document's example (up) of layer 17; The contract of the document's own SameImage at two readings of one image; In a plan that ends in the file nothing stands in one place with another thing, and all is in the file; A model that may be planned.
-/
import Derived.Test.YtaianmonokeimaaIbH19
import Derived.Test.YtaianmonokeimaaIbH20
import Derived.Test.YtaianmonokeimaaIbH23
import Derived.Test.YtaianmonokeimaaIbH18
import Derived.Test.YtaianmonokeimaaIbH11
import Derived.Test.YtaianmonokeimaaIbH13
namespace Go.Proofs.Ytaianmonokeimaa
open Go.Lib (hid)
open Go.RowKit
set_option maxRecDepth 100000
set_option linter.unusedVariables false
def sg17 : Sg := ⟨1, 4, 9, 0, 2, 0, ⟨-1, 0, 1, [7]⟩⟩
def md17 : Md := ⟨false, false, 0, 0, 0, 0, 0, 0, [sg17], [], 0⟩
theorem img_nil : ¬ Img [] := fun h => by
 rcases h.1 with ⟨h0, _⟩ | ⟨h1, _⟩
 ·exact h0 rfl
 ·rcases h1 with ⟨_, _, _, h⟩ | ⟨h, _⟩ | ⟨h, _⟩
  ·simp at h
  ·omega
  ·omega
theorem model17 (g b : Nat) (w : World) (hb : Blk w b 5 #[.int .u8 7]) (hg : Blk w g 53 (sgC sg17 (.slice (some ⟨b, 0, none⟩) 1 1))) :
  Calls Try.prog 8 #[.agg #[.bool false, .bool false, .int .u8 0, .int .u8 0, .int .u16 0, .int .u16 0, .int .u32 0, .int .u64 0, .slice (some ⟨g, 0, none⟩) 1 1, .slice none 0 0, .int .i64 0]] w fun e w' =>
   ∃ A c, e = .returned (.agg #[.int .u64 0, .slice A 1 c]) ∧ ZR rgK w' w'.heap.size A 1 c [⟨9, 2, 4, [7]⟩] ∧ Grow w w' := by
 have hz : ZR sgK w w.heap.size (some ⟨g, 0, none⟩) 1 1 md17.segs := ZR.one (K := sgK) (a := sg17) (A := some ⟨b, 0, none⟩) (n := 1) (c := 1) hg (Blk.rb (l := [7]) hb (by decide)) rfl hg.lt
 refine Calls.mono (imModel_any md17 (some ⟨g, 0, none⟩) 1 1 (.slice none 0 0) w hz (fun s hs => by
  obtain rfl : s = sg17 := by simpa [md17] using hs
  decide) (by decide)) ?_
 rintro e w' ⟨A, c, rfl, h1, h2⟩
 exact ⟨A, c, rfl, h1.zr, h2⟩
theorem at17 (A : Option Addr) (c : Nat) (w : World) (h : ZR rgK w w.heap.size A 1 c [⟨9, 2, 4, [7]⟩]) :
  Calls Try.prog 9 #[.agg #[.int .u64 0, .slice A 1 c], .int .u64 9] w (fun e w' => e = .returned (.tuple #[.int .u8 7, .int .u32 4, .bool true]) ∧ Grow w w') ∧
  Calls Try.prog 9 #[.agg #[.int .u64 0, .slice A 1 c], .int .u64 10] w (fun e w' => e = .returned (.tuple #[.int .u8 0, .int .u32 4, .bool true]) ∧ Grow w w') ∧
  Calls Try.prog 9 #[.agg #[.int .u64 0, .slice A 1 c], .int .u64 11] w (fun e w' => e = .returned (.tuple #[.int .u8 0, .int .u32 0, .bool false]) ∧ Grow w w') :=
 ⟨Calls.mono (at_any 0 A 1 c _ 9 w h (by decide)) fun e w' h => h, Calls.mono (at_any 0 A 1 c _ 10 w h (by decide)) fun e w' h => h, Calls.mono (at_any 0 A 1 c _ 11 w h (by decide)) fun e w' h => h⟩
theorem file_nil (w : World) : Calls Try.prog 7 #[.slice none 0 0] w fun e w' => e = .returned (.tuple #[.agg #[.int .u64 0, .slice none 0 0], .iface 67 (.int .i64 4)]) ∧ Grow w w' := by
 refine Calls.mono (imFile_any [] none 0 0 w RB.nil (by decide)) ?_
 rintro e w' (⟨h, _⟩ | ⟨_, rfl, h⟩)
 ·exact absurd h img_nil
 ·exact ⟨rfl, h⟩
theorem code_4 (w : World) : Calls Try.prog 11 #[.iface 67 (.int .i64 4)] w fun e w' => e = .returned (.int .i64 4) ∧ w = w' := code_some 4 (by decide) (by decide) w
set_option maxHeartbeats 4000000 in
theorem up17 (w : World) : Calls Try.prog 4 #[] w fun e w' => e = .returned (.bool true) ∧ Grow w w' := by
 go_enter Try.func4, Try.ntmps4
 go_wp2_with fail
 generalize hW : World.alloc _ _ = W0
 obtain ⟨b1, b2, hg⟩ := blk2 hW
 clear hW
 have HG0 := hid hg
 refine (model17 _ _ W0 b1 b2).mono ?_
 clear hg b1 b2
 rintro e w1 ⟨A, c, rfl, hz, hg⟩
 have HZ1 := hid hz
 have HG1 : Hid (Grow w w1) := hid (HG0.out.trans hg)
 clear hz hg HG0
 go_wp2_with fail
 generalize hW : World.alloc _ _ = W2
 obtain ⟨b1, hg⟩ := blk1 hW
 clear hW
 have HX2 := hid b1
 have HZ2 := hid (HZ1.out.grow hg)
 have HG2 : Hid (Grow w W2) := hid (HG1.out.trans hg)
 clear b1 hg HZ1 HG1
 generalize w1.heap.size = gx at HX2 ⊢
 refine (at17 A c W2 HZ2.out).1.mono ?_
 rintro e w3 ⟨rfl, hg⟩
 have HX3 := hid (HX2.out.grow hg)
 have HZ3 := hid (HZ2.out.grow hg)
 have HG3 : Hid (Grow w w3) := hid (HG2.out.trans hg)
 clear hg HX2 HZ2 HG2
 obtain ⟨x0, x1⟩ := HX3.out.c2
 go_wp2_with fail
 clear x0 x1
 refine (at17 A c w3 HZ3.out).2.1.mono ?_
 rintro e w4 ⟨rfl, hg⟩
 have HX4 := hid (HX3.out.grow hg)
 have HZ4 := hid (HZ3.out.grow hg)
 have HG4 : Hid (Grow w w4) := hid (HG3.out.trans hg)
 clear hg HX3 HZ3 HG3
 obtain ⟨x0, x1⟩ := HX4.out.c2
 go_wp2_with fail
 clear x0 x1
 refine (at17 A c w4 HZ4.out).2.2.mono ?_
 rintro e w5 ⟨rfl, hg⟩
 have HG5 : Hid (Grow w w5) := hid (HG4.out.trans hg)
 clear hg HX4 HZ4 HG4
 go_wp2_with fail
 refine (file_nil w5).mono ?_
 rintro e w6 ⟨rfl, hg⟩
 have HG6 : Hid (Grow w w6) := hid (HG5.out.trans hg)
 clear hg HG5
 go_wp2_with fail
 refine (code_4 _).mono ?_
 rintro e w7 ⟨rfl, rfl⟩
 go_wp2
 go_ret
 exact ⟨rfl, HG6.out.trans (Grow.of_alloc _ _)⟩
set_option maxRecDepth 100000
set_option linter.unusedVariables false
set_option maxHeartbeats 8000000 in
theorem rSameImg_any (en : Nat) (L : List Rg) (A1 A3 : Option Addr) (n1 c1 n3 c3 : Nat) (w : World) (g1 : ZR rgK w w.heap.size A1 n1 c1 L) (g3 : ZR rgK w w.heap.size A3 n3 c3 L) :
  Calls Try.prog 10 #[.agg (imC en (.slice A1 n1 c1)), .agg (imC en (.slice A3 n3 c3))] w fun e w' => e = .returned (.bool true) ∧ Grow w w' := by
 obtain rfl : n1 = n3 := g1.len.trans g3.len.symm
 have H1 := hid g1
 have H3 := hid g3
 have HL1 := hid g1.len
 have a1 := g1.cap
 have a2 := g1.max
 have a5 := g3.cap
 have a6 := g3.max
 unfold maxLen at a2 a6
 unfold imC
 clear g1 g3
 go_enter Try.func10, Try.ntmps10
 go_wp2_with fail
 generalize hW : World.alloc _ _ = W0
 obtain ⟨b1, b2, hg0⟩ := blk2 hW
 clear hW
 have HX := hid b1
 have HY := hid b2
 have HW := hid hg0
 clear b1 b2 hg0
 generalize w.heap.size + 1 = gy at HY ⊢
 obtain ⟨gx, hgx⟩ : ∃ g, g = w.heap.size := ⟨_, rfl⟩
 rw [← hgx] at HX ⊢
 clear hgx
 go_loopw [5] (fun i wr => ∃ k : Nat, k ≤ n1 ∧ i = .int .i64 k ∧ Blk wr gx 42 #[.int .u64 (en : Nat), .slice A1 n1 c1] ∧ Blk wr gy 42 #[.int .u64 (en : Nat), .slice A3 n1 c3] ∧ Grow w wr) (fun i _ => n1 - (intOf i).toNat)
 case atStart => exact ⟨0, Nat.zero_le _, rfl, HX.out, HY.out, HW.out⟩
 case round =>
  obtain ⟨k, hk, rfl, hx, hy, hg⟩ := hrel
  have HX1 := hid hx
  have HY1 := hid hy
  have HW1 := hid hg
  clear hx hy hg HX HY HW
  by_cases hlt : k < n1
  ·have hkl : k < L.length := by rw [← HL1.out]; exact hlt
   obtain ⟨b, off, hAA, hb⟩ := H1.out.pos (by omega)
   obtain ⟨bb, off2, hAB, hbb⟩ := H3.out.pos (by omega)
   subst hAA
   subst hAB
   obtain ⟨B1, k1, e1, -, p, g1⟩ := H1.out.at hkl
   obtain ⟨B3, k3, e3, -, r, g3⟩ := H3.out.at hkl
   have p' : ∀ i v, (rgC L[k] (.slice B1 k1 e1))[i]? = some v → wr.cell? ⟨b, off + k * 4 + i, none⟩ = some v := fun i v hv => (Below.cell HW1.out hb).trans (p i v hv)
   have r' : ∀ i v, (rgC L[k] (.slice B3 k3 e3))[i]? = some v → wr.cell? ⟨bb, off2 + k * 4 + i, none⟩ = some v := fun i v hv => (Below.cell HW1.out hbb).trans (r i v hv)
   have HS1 := hid (fun W (hW : Grow w W) => (g1.grow hW).conv (Nat.le_refl _) W (Grow.refl _))
   have HS3 := hid (fun W (hW : Grow w W) => (g3.grow hW).conv (Nat.le_refl _) W (Grow.refl _))
   have HBB := hid (Nat.lt_of_lt_of_le hbb HW1.out.size)
   unfold rgC at p' r'
   clear p r g1 g3
   have hby : rgK.by_ L[k] = L[k].bytes := rfl
   rw [hby] at HS1 HS3
   clear hby
   generalize L[k] = r at p' r' HS1 HS3
   clear hkl
   have s0 : wr.cell? ⟨b, off + k * 4, none⟩ = _ := p' 0 _ rfl
   have s1 : wr.cell? ⟨b, off + k * 4 + 1, none⟩ = _ := p' 1 _ rfl
   have s2 : wr.cell? ⟨b, off + k * 4 + 2, none⟩ = _ := p' 2 _ rfl
   have s3 : wr.cell? ⟨b, off + k * 4 + 3, none⟩ = _ := p' 3 _ rfl
   have r2 : ∀ i v, (#[.int .u64 (r.addr : Nat), .int .u64 (r.size : Nat), .int .u32 (r.flags : Nat), .slice B3 k3 e3] : Array Value)[i]? = some v → (wr.alloc (.cells #[.int .u64 (r.addr : Nat), .int .u64 (r.size : Nat), .int .u32 (r.flags : Nat), .slice B1 k1 e1] 74)).cell? ⟨bb, off2 + k * 4 + i, none⟩ = some v := fun i v hv => (Below.cell (Grow.of_alloc wr _) HBB.out).trans (r' i v hv)
   have u0 : (wr.alloc (.cells #[.int .u64 (r.addr : Nat), .int .u64 (r.size : Nat), .int .u32 (r.flags : Nat), .slice B1 k1 e1] 74)).cell? ⟨bb, off2 + k * 4, none⟩ = _ := r2 0 _ rfl
   have u1 : (wr.alloc (.cells #[.int .u64 (r.addr : Nat), .int .u64 (r.size : Nat), .int .u32 (r.flags : Nat), .slice B1 k1 e1] 74)).cell? ⟨bb, off2 + k * 4 + 1, none⟩ = _ := r2 1 _ rfl
   have u2 : (wr.alloc (.cells #[.int .u64 (r.addr : Nat), .int .u64 (r.size : Nat), .int .u32 (r.flags : Nat), .slice B1 k1 e1] 74)).cell? ⟨bb, off2 + k * 4 + 2, none⟩ = _ := r2 2 _ rfl
   have u3 : (wr.alloc (.cells #[.int .u64 (r.addr : Nat), .int .u64 (r.size : Nat), .int .u32 (r.flags : Nat), .slice B1 k1 e1] 74)).cell? ⟨bb, off2 + k * 4 + 3, none⟩ = _ := r2 3 _ rfl
   have m1 := HX1.out.at 1
   have y1 := HY1.out.at 1
   have y1a := (HY1.out.grow (Grow.of_alloc wr (.cells #[.int .u64 (r.addr : Nat), .int .u64 (r.size : Nat), .int .u32 (r.flags : Nat), .slice B1 k1 e1] 74))).at 1
   have hga : Grow wr ((wr.alloc (.cells #[.int .u64 (r.addr : Nat), .int .u64 (r.size : Nat), .int .u32 (r.flags : Nat), .slice B1 k1 e1] 74)).alloc (.cells #[.int .u64 (r.addr : Nat), .int .u64 (r.size : Nat), .int .u32 (r.flags : Nat), .slice B3 k3 e3] 74)) := (Grow.of_alloc _ _).trans (Grow.of_alloc _ _)
   have t1 := HS1.out _ (HW1.out.trans hga)
   have t3 := HS3.out _ (HW1.out.trans hga)
   have HX2 := hid (HX1.out.grow hga)
   have HY2 := hid (HY1.out.grow hga)
   have HW2 := hid (HW1.out.trans hga)
   clear p' r' r2 hga HS1 HS3
   have w0 : (0 : Int) ≤ (k : Int) := by omega
   have w1 : (k : Int) < (n1 : Int) := by omega
   have d1 : decide ((k : Int) < (n1 : Int)) = true := decide_eq_true (by omega)
   go_wp2
   go_roundw
   case rel => exact ⟨k + 1, by omega, by go_num, HX2.out, HY2.out, HW2.out⟩
   case measure => simp [intOf]; omega
  ·have d1 : decide ((k : Int) < (n1 : Int)) = false := decide_eq_false (by omega)
   have m1 := HX1.out.at 1
   go_wp2
   go_ret
   exact ⟨rfl, HW1.out⟩
end Go.Proofs.Ytaianmonokeimaa
namespace Go.Proofs.Ytaianmonokeimaa
open Go.Lib (hid)
namespace Md
variable (m : Md)
theorem eL_step (h : m.segs.length ≤ 16) (k : Nat) : m.eL k ≤ m.eL (k + 1) := by
 rw [eL]
 split
 ·exact fin_ge (m.eL_le h k)
 ·exact Nat.le_refl _
theorem eO_step (h : m.segs.length ≤ 16) (k : Nat) : m.eO k ≤ m.eO (k + 1) := by
 rw [eO]
 split
 ·exact Nat.le_refl _
 split
 ·exact fin_ge (m.eO_le h k)
 ·exact Nat.le_refl _
theorem eS_step (h : m.segs.length ≤ 16) (k : Nat) : m.eS k ≤ m.eS (k + 1) := by
 rw [eS]
 split
 ·exact fin_ge (m.eS_le h k)
 ·exact Nat.le_refl _
end Md
theorem mono_of {f : Nat → Nat} (h : ∀ k, f k ≤ f (k + 1)) {a b : Nat} (hab : a ≤ b) : f a ≤ f b := by
 induction b with
 | zero => rw [show a = 0 by omega]; exact Nat.le_refl _
 | succ b ih =>
  rcases Nat.lt_or_ge a (b + 1) with h1 | h1
  ·exact Nat.le_trans (ih (by omega)) (h b)
  ·rw [show a = b + 1 by omega]; exact Nat.le_refl _
structure Planned (m : Md) : Prop where
 ok : PlOk m
 load : ∀ k, k < m.segs.length → (m.sg k).typ = 1 → (m.sg k).pl.inn = -1
 fits : m.eT ≤ 65536
theorem Planned.eS_in {m : Md} (h : Planned m) {k : Nat} (hk : k ≤ m.secs.length) : m.eS k ≤ 65536 := by
 have h1 := h.fits
 have h2 : m.eS k ≤ m.eS m.secs.length := mono_of (m.eS_step h.ok.n1) hk
 have h3 : m.eS m.secs.length ≤ m.eT := by
  unfold Md.eT
  split
  ·exact fin_ge (m.eS_le h.ok.n1 _)
  ·exact Nat.le_refl _
 omega
theorem Planned.eO_in {m : Md} (h : Planned m) {k : Nat} (hk : k ≤ m.segs.length) : m.eO k ≤ m.eO m.segs.length ∧ m.eO m.segs.length ≤ 65536 := by
 have h1 := h.eS_in (k := 0) (by omega)
 exact ⟨mono_of (m.eO_step h.ok.n1) hk, h1⟩
theorem Planned.eL_in {m : Md} (h : Planned m) {k : Nat} (hk : k ≤ m.segs.length) : m.eL k ≤ m.eL m.segs.length ∧ m.eL m.segs.length ≤ 65536 := by
 have h1 := (h.eO_in (k := 0) (by omega))
 have h2 : m.eO 0 = m.eL m.segs.length := rfl
 exact ⟨mono_of (m.eL_step h.ok.n1) hk, by omega⟩
theorem Planned.load_at {m : Md} (h : Planned m) {k : Nat} (hk : k < m.segs.length) (ht : (m.sg k).typ = 1) : m.eL k ≤ m.P2 k ∧ m.P2 k + (m.sg k).pl.size = m.eL (k + 1) ∧ m.P2 k = nxt (m.eL k) (m.sg k).vaddr (m.sg k).align := by
 have h1 := h.eL_in (k := k + 1) hk
 have e : m.eL (k + 1) = fin (m.eL k) (m.sg k).vaddr (m.sg k).align (m.sg k).pl.size := by rw [Md.eL, if_pos ht]
 have hin := fin_in (e := m.eL k) (v := (m.sg k).vaddr) (a := (m.sg k).align) (n := (m.sg k).pl.size) (by rw [← e]; omega)
 have e2 : m.P2 k = plc (m.eL k) (m.sg k).vaddr (m.sg k).align := by unfold Md.P2 Md.P1; rw [if_pos ht, if_pos ht]
 rw [e2, e]
 exact ⟨hin.2.2.2, hin.2.2.1, hin.1⟩
theorem Planned.other_at {m : Md} (h : Planned m) {k : Nat} (hk : k < m.segs.length) (ht : (m.sg k).typ ≠ 1) (hi : (m.sg k).pl.inn = -1) : m.eO k ≤ m.P2 k ∧ m.P2 k + (m.sg k).pl.size = m.eO (k + 1) := by
 have h1 := h.eO_in (k := k + 1) hk
 have e : m.eO (k + 1) = fin (m.eO k) 0 8 (m.sg k).pl.size := by rw [Md.eO, if_neg ht, if_pos hi]
 have hin := fin_in (e := m.eO k) (v := 0) (a := 8) (n := (m.sg k).pl.size) (by rw [← e]; omega)
 have e2 : m.P2 k = plc (m.eO k) 0 8 := by unfold Md.P2; rw [if_neg ht, if_pos hi]
 rw [e2, e]
 exact ⟨hin.2.2.2, hin.2.2.1⟩
theorem Planned.sec_at {m : Md} (h : Planned m) {k : Nat} (hk : k < m.secs.length) (hi : (m.se k).pl.inn = -1) : m.eS k ≤ m.P3 k ∧ m.P3 k + (m.se k).pl.size = m.eS (k + 1) := by
 have h1 := h.eS_in (k := k + 1) hk
 have e : m.eS (k + 1) = fin (m.eS k) 0 8 (m.se k).pl.size := by rw [Md.eS, if_pos hi]
 have hin := fin_in (e := m.eS k) (v := 0) (a := 8) (n := (m.se k).pl.size) (by rw [← e]; exact h1)
 have e2 : m.P3 k = plc (m.eS k) 0 8 := by unfold Md.P3; rw [if_pos hi]
 rw [e2, e]
 exact ⟨hin.2.2.2, hin.2.2.1⟩
theorem Planned.order {m : Md} (h : Planned m) : hSize m.wide ≤ m.e1 ∧ m.e1 ≤ m.eL m.segs.length ∧ m.eL m.segs.length ≤ m.eO m.segs.length ∧ m.eO m.segs.length = m.eS 0 ∧ m.eS 0 ≤ m.eS m.secs.length ∧ m.eS m.secs.length ≤ m.eT := by
 have a : m.eL 0 ≤ m.eL m.segs.length := mono_of (m.eL_step h.ok.n1) (by omega)
 have b : m.eO 0 ≤ m.eO m.segs.length := mono_of (m.eO_step h.ok.n1) (by omega)
 have c : m.eS 0 ≤ m.eS m.secs.length := mono_of (m.eS_step h.ok.n1) (by omega)
 have d : m.eS m.secs.length ≤ m.eT := by
  unfold Md.eT
  split
  ·exact fin_ge (m.eS_le h.ok.n1 _)
  ·exact Nat.le_refl _
 exact ⟨Nat.le_add_right _ _, a, b, rfl, c, d⟩
end Go.Proofs.Ytaianmonokeimaa
namespace Go.Proofs.Ytaianmonokeimaa
open Go.Lib (hid)
open Go.RowKit
theorem segC_own {m : Md} {s : Sg} (h : m.segC s = 0) (ht : s.typ = 1) : s.pl.inn = -1 := by
 unfold Md.segC at h
 split at h
 ·omega
 split at h
 ·omega
 split at h
 ·omega
 split at h
 ·omega
 ·rename_i h1
  omega
theorem planned_of {m : Md} (ok : m.Ok) (h : m.planC = 0) (hl : ∀ s ∈ m.segs, s.pl.own.length ≤ maxLen) (hl2 : ∀ s ∈ m.secs, s.pl.own.length ≤ maxLen) : Planned m := by
 unfold Md.planC at h
 split at h
 ·omega
 ·rename_i h1
  have hc : m.chk = 0 := by omega
  split at h
  ·rename_i h2
   exact ⟨plan_ok ok hc hl hl2, fun k hk ht => segC_own ((Md.chk_zero hc).1 _ (m.sg_mem hk)) ht, h2⟩
  ·omega
theorem Planned.seg_in {m : Md} (h : Planned m) {k : Nat} (hk : k < m.segs.length) (hi : (m.sg k).pl.inn ≠ -1) : (m.sg k).typ ≠ 1 ∧ ∃ i : Nat, (m.sg k).pl.inn = (i : Int) ∧ i < m.segs.length ∧ m.P2 k = m.P2 i + (m.sg k).pl.off ∧ m.P2 k < 18446744073709551616 := by
 have ht : (m.sg k).typ ≠ 1 := fun e => hi (h.load k hk e)
 refine ⟨ht, ?_⟩
 rcases (h.ok.sg k hk).pl ht with a | ⟨i, a, b, c, d⟩
 ·exact absurd a hi
 ·have e1 : m.P2 i = m.P1 i := by unfold Md.P2; rw [if_pos c]
  have e2 : m.P2 k = m.P1 i + (m.sg k).pl.off := by unfold Md.P2; rw [if_neg ht, if_neg hi, a]; rfl
  have := m.P1_le i
  exact ⟨i, a, b, by rw [e1, e2], by omega⟩
theorem Planned.sec_in {m : Md} (h : Planned m) {k : Nat} (hk : k < m.secs.length) (hi : (m.se k).pl.inn ≠ -1) : ∃ i : Nat, (m.se k).pl.inn = (i : Int) ∧ i < m.segs.length ∧ m.P3 k = m.P2 i + (m.se k).pl.off ∧ m.P3 k < 18446744073709551616 := by
 rcases h.ok.se k hk with a | ⟨i, a, b, c⟩
 ·exact absurd a hi
 ·have e2 : m.P3 k = m.P2 i + (m.se k).pl.off := by unfold Md.P3; rw [if_neg hi, a]; rfl
  exact ⟨i, a, b, e2, by omega⟩
end Go.Proofs.Ytaianmonokeimaa
