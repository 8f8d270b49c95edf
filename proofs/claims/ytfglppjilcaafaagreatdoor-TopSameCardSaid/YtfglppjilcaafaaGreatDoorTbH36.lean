/-
  Several texts in one: The walk of TopBack; From what the frame tells of a slice of bytes that came in to RB; What came in as a number, and as a slice of bytes, opened; What came in as a form, opened; What came in as a model, opened.
-/
import Derived.Test.YtfglppjilcaafaaGreatDoorTbH29
import Derived.Test.YtfglppjilcaafaaGreatDoorTbH30
import Derived.Test.YtfglppjilcaafaaGreatDoorTbH35
import Derived.Test.YtfglppjilcaafaaGreatDoorTbH2
import Derived.OpenShut
import Derived.Test.YtfglppjilcaafaaGreatDoorRows
import Derived.Deep.SlicePairs
import Derived.Lib.SmallJoins
import Derived.Test.YtfglppjilcaafaaGreatDoorTbH4
import Derived.Deep.Slices
import Derived.SizedLaws
namespace Go.Proofs.YtfglppjilcaafaaGreatDoor
open Go.Lib (hid)
open Go.RowKit
set_option maxRecDepth 100000
set_option linter.unusedVariables false
theorem planT (m : Md) (ok : m.Ok) (A1 A2 : Option Addr) (n1 c1 n2 c2 : Nat) (w : World) (g1 : ZR sgK w w.heap.size A1 n1 c1 m.segs) (g2 : ZR seK w w.heap.size A2 n2 c2 m.secs) :
  Calls Tryz.prog 8 #[.agg (mdC m (.slice A1 n1 c1) (.slice A2 n2 c2))] w fun e w' => ∃ (a b d : Nat) (A : Option Addr) (n c : Nat) (A' : Option Addr) (n' c' : Nat), e = .returned (.tuple #[.agg #[.int .u64 (a : Nat), .int .u64 (b : Nat), .int .u64 (d : Nat), .slice A n c, .slice A' n' c'], .int .i64 (m.planC : Nat)]) ∧ Grow w w' := by
 refine (rPlan_any m ok A1 A2 n1 c1 n2 c2 w g1 g2).mono ?_
 rintro e w' ⟨cs, rfl, ⟨A, n, c, A', n', c', rfl, _, _⟩, hg⟩
 exact ⟨_, _, _, A, n, c, A', n', c', rfl, hg⟩
theorem good_told {l : List UInt8} {c p : Nat} {m : Md} (h : PTold l c p m) (h0 : c = 0) (o1 : ∀ s ∈ m.segs, s.pl.own.length ≤ maxLen) (o2 : ∀ s ∈ m.secs, s.pl.own.length ≤ maxLen) : Good m := by
 rcases h with ⟨_, rfl, _⟩ | ⟨_, h1, _⟩ | ⟨_, h1, h2, h3⟩
 ·omega
 ·exact absurd h0 h1
 ·rw [if_pos h0] at h3
  subst h3
  refine ⟨mdF_ok l, ?_, o1, o2⟩
  subst h0
  unfold restE at h2
  split at h2
  ·rename_i h
   rw [h2] at h
   exact absurd rfl h
  split at h2
  ·rename_i h
   rw [h2] at h
   exact absurd rfl h
  split at h2
  ·rename_i h
   exact absurd (congrArg Prod.fst h2) h
  ·rename_i h
   omega
set_option maxHeartbeats 16000000 in
theorem topBack_core (m : Md) (ok : m.Ok) (A1 A2 : Option Addr) (n1 c1 n2 c2 : Nat) (A : Option Addr) (n c : Nat) (l : List UInt8) (w : World) (g1 : ZR sgK w w.heap.size A1 n1 c1 m.segs) (g2 : ZR seK w w.heap.size A2 n2 c2 m.secs) (hr : RB w w.heap.size A n c l) (hd : Door w)
  (hs1 : ∀ s ∈ m.segs, s.pl.own.length ≤ reachBytes) (hs2 : ∀ s ∈ m.secs, s.pl.own.length ≤ reachBytes) :
  Calls Tryz.prog 3 #[.agg (mdC m (.slice A1 n1 c1) (.slice A2 n2 c2)), .slice A n c] w fun e w' => e = .returned (.bool true) ∧ Grow w w' := by
 have hsm := sum_small g1.len g2.len hs1 hs2
 have HU := hid (upTop)
 have HD := hid hd
 have HF := hid (fun (w' : World) (hg : Grow w w') => few_any m A1 A2 n1 c1 n2 c2 w' (g1.grow hg) (g2.grow hg) hsm)
 have HE := hid (fun (w' : World) (hg : Grow w w') => encode_any m ok A1 A2 n1 c1 n2 c2 w' (g1.grow hg) (g2.grow hg))
 have HPm := hid (fun (w' : World) (hg : Grow w w') => planT m ok A1 A2 n1 c1 n2 c2 w' (g1.grow hg) (g2.grow hg))
 have HGd : Hid (m.planC = 0 → Good m) := hid fun h => ⟨ok, h, g1.owns, g2.owns⟩
 have HS := hid (fun (A3 A4 : Option Addr) (n3 c3 n4 c4 : Nat) (w' : World) (hg : Grow w w') h3 h4 => rSame_any m A1 A2 A3 A4 n1 c1 n2 c2 n3 c3 n4 c4 w' (g1.grow hg) (g2.grow hg) h3 h4)
 have HB := hid (fun h : Good m => parse_back m h)
 have HPb := hid (fun W (hg : Grow w W) => parse_any l A n c W (hr.grow hg) (hd.grow hg))
 have hcp := hr.cap
 have hmx := hr.max
 unfold maxLen at hmx
 unfold EncR at HE
 unfold BackR at HB
 unfold ParseR at HPb
 clear g1 g2 ok hs1 hs2 hsm hd hr
 obtain ⟨x0, x1, x2, x3, x4, x5, x6, x7, x10, hC, hO⟩ : ∃ x0 x1 x2 x3 x4 x5 x6 x7 x10 : Value, (∀ s t, mdC m s t = #[x0, x1, x2, x3, x4, x5, x6, x7, s, t, x10]) ∧ (∀ p q i r j k, (#[x0, x1, x2, x3, x4, x5, x6, x7, .slice p i k, .slice q j r, x10] : Array Value).all (·.oneCell') = true) := ⟨_, _, _, _, _, _, _, _, _, fun _ _ => rfl, fun _ _ _ _ _ _ => by simp [Value.oneCell']⟩
 have HO := hid hO
 simp only [hC] at HF HE HPm HS HB ⊢
 clear hC hO
 go_enter Tryz.func3, Tryz.ntmps3
 go_wp2_with fail
 generalize hW : World.alloc _ _ = W0
 obtain ⟨b1, hg0⟩ := blk1 hW
 clear hW
 have HM0 := hid b1
 have HG0 := hid hg0
 clear b1 hg0
 refine (HU.out _ (HD.out.grow HG0.out)).mono ?_
 rintro e w1 ⟨rfl, hg⟩
 have HM1 := hid (HM0.out.grow hg)
 have HG1 : Hid (Grow w w1) := hid (HG0.out.trans hg)
 clear hg HM0 HG0 HU
 obtain ⟨v0, v1, v2, v3, v4, v5, v6, v7, v8, v9, v10⟩ := HM1.out.c11
 go_wp2_with fail
 clear v0 v1 v2 v3 v4 v5 v6 v7 v8 v9 v10
 refine (HF.out _ HG1.out).mono ?_
 rintro e w2 ⟨rfl, hg⟩
 have HM2 := hid (HM1.out.grow hg)
 have HG2 : Hid (Grow w w2) := hid (HG1.out.trans hg)
 clear hg HM1 HG1 HF
 generalize m.few = few
 by_cases hf : few = 0
 ·have d : ((few : Int) == 0) = true := by simp [hf]
  clear hf
  go_wp2
  go_ret
  exact ⟨rfl, HG2.out⟩
 have d : ((few : Int) == 0) = false := by simp; omega
 clear hf
 by_cases hn : 70000 < n
 ·have d2 : decide ((70000 : Int) < (n : Int)) = true := decide_eq_true (by omega)
  go_wp2
  go_ret
  exact ⟨rfl, HG2.out⟩
 have d2 : decide ((70000 : Int) < (n : Int)) = false := decide_eq_false (by omega)
 obtain ⟨v0, v1, v2, v3, v4, v5, v6, v7, v8, v9, v10⟩ := HM2.out.c11
 go_wp2_with fail
 clear v0 v1 v2 v3 v4 v5 v6 v7 v8 v9 v10 d d2
 refine (HPm.out _ HG2.out).mono ?_
 rintro e w3 ⟨a, b, d, A5, n5, c5, A6, n6, c6, rfl, hg⟩
 have HM3 := hid (HM2.out.grow hg)
 have HG3 : Hid (Grow w w3) := hid (HG2.out.trans hg)
 clear hg HM2 HG2 HPm
 have hga := Grow.of_alloc w3 (.cells #[.int .u64 (a : Nat), .int .u64 (b : Nat), .int .u64 (d : Nat), .slice A5 n5 c5, .slice A6 n6 c6] 38)
 have HM4 := hid (HM3.out.grow hga)
 have HG4 := hid (HG3.out.trans hga)
 clear hga HM3 HG3
 obtain ⟨v0, v1, v2, v3, v4, v5, v6, v7, v8, v9, v10⟩ := HM4.out.c11
 go_wp2_with fail
 clear v0 v1 v2 v3 v4 v5 v6 v7 v8 v9 v10
 refine (HE.out _ HG4.out).mono ?_
 rintro e w5 (⟨hC0, g, L, rfl, hfi, hb, hge, hg⟩ | ⟨hC0, rfl, hg⟩)
 rotate_left
 ·have HGA : Hid (Grow w w5) := hid (HG4.out.trans hg)
  generalize m.planC = pm at hC0 ⊢
  have dp : ((pm : Int) == 0) = false := by simp; omega
  clear hC0 hg HE HS HB HM4 HG4 HGd
  go_wp2_with fail
  clear dp
  refine (HPb.out _ HGA.out).mono ?_
  rintro e wB ⟨cc, p, mb, v, A7, n7, c7, A8, n8, c8, rfl, ht, he, z1, z2, hg⟩
  have HGB : Hid (Grow w wB) := hid (HGA.out.trans hg)
  have HE := hid he
  have hv : (cc = 0 ∧ v = .nilIface) ∨ (cc ≠ 0 ∧ ∃ bb, v = .iface 116 (.pointer (some ⟨bb, 0, none⟩))) := by
   rcases he with ⟨h, _, h'⟩ | ⟨h, b, h', _⟩
   ·exact .inl ⟨h, h'⟩
   ·exact .inr ⟨by omega, b, h'⟩
  have HZB := hid z1
  have HYB := hid z2
  have HOK := hid (fun h0 : cc = 0 => good_told ht h0 z1.owns z2.owns)
  have HPl := hid (fun (h0 : cc = 0) W (hg : Grow wB W) => planT mb (HOK.out h0).ok A7 A8 n7 c7 n8 c8 W (z1.grow hg) (z2.grow hg))
  have HCk := hid (fun (h0 : cc = 0) W (hg : Grow wB W) => check_any mb (HOK.out h0).ok A7 A8 n7 c7 n8 c8 W (z1.grow hg) (z2.grow hg))
  have HP0 := hid (fun h0 : cc = 0 => (HOK.out h0).plan)
  have HC0 := hid (fun h0 : cc = 0 => (HOK.out h0).chk)
  clear z1 z2 ht he hg HGA HPb HE HOK HZB HYB
  obtain ⟨u0, u1, u2, u3, u4, u5, u6, u7, u10, hC, hO⟩ : ∃ u0 u1 u2 u3 u4 u5 u6 u7 u10 : Value, mdC mb (.slice A7 n7 c7) (.slice A8 n8 c8) = #[u0, u1, u2, u3, u4, u5, u6, u7, .slice A7 n7 c7, .slice A8 n8 c8, u10] ∧ (#[u0, u1, u2, u3, u4, u5, u6, u7, .slice A7 n7 c7, .slice A8 n8 c8, u10] : Array Value).all (·.oneCell') = true := ⟨_, _, _, _, _, _, _, _, _, rfl, by simp [Value.oneCell']⟩
  have HO2 := hid hO
  rw [hC] at HPl HCk ⊢
  clear hC hO
  generalize mb.planC = pC at HPl HP0
  generalize mb.chk = kC at HCk HC0
  go_wp2_with (refine wpList_store_row rfl 32 (.tmp 13) (.tmp 61) rfl wB.heap.size _ rfl rfl _ _ (Blk.new _ _ _) (by kernel_rfl) rfl HO2.out ?_; rw [World.setRow_alloc_new]; refine Hid.out ?_)
  generalize hW : World.alloc _ _ = wC
  obtain ⟨b1, hg⟩ := blk1 hW
  clear hW
  have HXC := hid b1
  have HGC := hid hg
  have HWC : Hid (Grow w wC) := hid (HGB.out.trans hg)
  clear b1 hg HGB
  generalize hgb : wB.heap.size = gb at HXC ⊢
  clear hgb
  refine hid ?_
  rcases hv with ⟨h0, rfl⟩ | ⟨_, bb, rfl⟩
  rotate_left
  ·clear HPl HCk HP0 HC0 HXC HGC
   go_wp2
   go_ret
   exact ⟨rfl, HWC.out⟩
  have HPl := hid (HPl.out h0)
  have HCk := hid (HCk.out h0)
  obtain rfl := HP0.out h0
  obtain rfl := HC0.out h0
  clear HP0 HC0 h0
  obtain ⟨y0, y1, y2, y3, y4, y5, y6, y7, y8, y9, y10⟩ := HXC.out.c11
  go_wp2_with fail
  clear y0 y1 y2 y3 y4 y5 y6 y7 y8 y9 y10
  refine (HPl.out wC HGC.out).mono ?_
  rintro e wD ⟨a, b, d, A5, n5, c5, A6, n6, c6, rfl, hg⟩
  have HXD := hid (HXC.out.grow hg)
  have HGD : Hid (Grow wB wD) := hid (HGC.out.trans hg)
  have HWD : Hid (Grow w wD) := hid (HWC.out.trans hg)
  clear hg HXC HGC HWC HPl
  have hga := Grow.of_alloc wD (.cells #[.int .u64 (a : Nat), .int .u64 (b : Nat), .int .u64 (d : Nat), .slice A5 n5 c5, .slice A6 n6 c6] 38)
  obtain ⟨y0, y1, y2, y3, y4, y5, y6, y7, y8, y9, y10⟩ := (HXD.out.grow hga).c11
  go_wp2_with fail
  clear y0 y1 y2 y3 y4 y5 y6 y7 y8 y9 y10
  refine (HCk.out _ (HGD.out.trans hga)).mono ?_
  rintro e wE ⟨rfl, hg⟩
  have HWE : Hid (Grow w wE) := hid ((HWD.out.trans hga).trans hg)
  clear hg hga HXD HGD HWD HCk
  rw [eC_zero]
  go_wp2
  go_ret
  exact ⟨rfl, HWE.out⟩
 rw [hC0]
 have HGo := hid (HGd.out hC0)
 have HB2 := hid (HB.out HGo.out)
 have HFi := hid hfi
 have hS : L.length ≤ 65536 := by have := HGo.out.eT; have := hfi.2; omega
 have hrb := hb.rb (Nat.le_trans hS (by decide))
 have HM5 := hid (HM4.out.grow hg)
 have HG5 : Hid (Grow w w5) := hid (HG4.out.trans hg)
 have HP := hid (HB2.out L [] HFi.out (by rw [List.append_nil]; exact hS) (some ⟨g, 0, none⟩) L.length L.length w5 (by rw [List.append_nil]; exact hrb) (HD.out.grow HG5.out))
 clear hC0 hfi hb hge hg HE HM4 HG4 HGd HB HB2 HFi HGo hrb
 generalize L.length = S at HP hS ⊢
 go_wp2_with fail
 refine HP.out.mono ?_
 rintro e w6 ⟨A3, n3, c3, A4, n4, c4, rfl, z3, z4, hg⟩
 have HZ6 := hid z3
 have HY6 := hid z4
 have HM6 := hid (HM5.out.grow hg)
 have HG6 : Hid (Grow w w6) := hid (HG5.out.trans hg)
 clear z3 z4 hg HM5 HG5 HP
 go_wp2_with (refine wpList_store_row rfl 32 (.tmp 10) (.tmp 47) rfl w6.heap.size _ rfl rfl _ _ (Blk.new _ _ _) (by kernel_rfl) rfl (HO.out _ _ _ _ _ _) ?_; rw [World.setRow_alloc_new]; refine Hid.out ?_)
 generalize hW : World.alloc _ _ = w7
 obtain ⟨b5, hg⟩ := blk1 hW
 clear hW
 have HX7 := hid b5
 have HM7 := hid (HM6.out.grow hg)
 have HZ7 := hid (HZ6.out.grow hg)
 have HY7 := hid (HY6.out.grow hg)
 have HG7 : Hid (Grow w w7) := hid (HG6.out.trans hg)
 clear b5 hg HM6 HG6 HZ6 HY6
 refine hid ?_
 obtain ⟨v0, v1, v2, v3, v4, v5, v6, v7, v8, v9, v10⟩ := HM7.out.c11
 obtain ⟨y0, y1, y2, y3, y4, y5, y6, y7, y8, y9, y10⟩ := HX7.out.c11
 go_wp2_with fail
 clear v0 v1 v2 v3 v4 v5 v6 v7 v8 v9 v10 y0 y1 y2 y3 y4 y5 y6 y7 y8 y9 y10 HX7
 refine (HS.out _ _ _ _ _ _ _ HG7.out HZ7.out HY7.out).mono ?_
 rintro e w8 ⟨rfl, hg⟩
 have HGA : Hid (Grow w w8) := hid (HG7.out.trans hg)
 clear hg HM7 HG7 HZ7 HY7 HS
 go_wp2_with fail
 refine (HPb.out _ HGA.out).mono ?_
 rintro e wB ⟨cc, p, mb, v, A7, n7, c7, A8, n8, c8, rfl, ht, he, z1, z2, hg⟩
 have HGB : Hid (Grow w wB) := hid (HGA.out.trans hg)
 have HE := hid he
 have hv : (cc = 0 ∧ v = .nilIface) ∨ (cc ≠ 0 ∧ ∃ bb, v = .iface 116 (.pointer (some ⟨bb, 0, none⟩))) := by
  rcases he with ⟨h, _, h'⟩ | ⟨h, b, h', _⟩
  ·exact .inl ⟨h, h'⟩
  ·exact .inr ⟨by omega, b, h'⟩
 have HZB := hid z1
 have HYB := hid z2
 have HOK := hid (fun h0 : cc = 0 => good_told ht h0 z1.owns z2.owns)
 have HPl := hid (fun (h0 : cc = 0) W (hg : Grow wB W) => planT mb (HOK.out h0).ok A7 A8 n7 c7 n8 c8 W (z1.grow hg) (z2.grow hg))
 have HCk := hid (fun (h0 : cc = 0) W (hg : Grow wB W) => check_any mb (HOK.out h0).ok A7 A8 n7 c7 n8 c8 W (z1.grow hg) (z2.grow hg))
 have HP0 := hid (fun h0 : cc = 0 => (HOK.out h0).plan)
 have HC0 := hid (fun h0 : cc = 0 => (HOK.out h0).chk)
 clear z1 z2 ht he hg HGA HPb HE HOK HZB HYB
 obtain ⟨u0, u1, u2, u3, u4, u5, u6, u7, u10, hC, hO⟩ : ∃ u0 u1 u2 u3 u4 u5 u6 u7 u10 : Value, mdC mb (.slice A7 n7 c7) (.slice A8 n8 c8) = #[u0, u1, u2, u3, u4, u5, u6, u7, .slice A7 n7 c7, .slice A8 n8 c8, u10] ∧ (#[u0, u1, u2, u3, u4, u5, u6, u7, .slice A7 n7 c7, .slice A8 n8 c8, u10] : Array Value).all (·.oneCell') = true := ⟨_, _, _, _, _, _, _, _, _, rfl, by simp [Value.oneCell']⟩
 have HO2 := hid hO
 rw [hC] at HPl HCk ⊢
 clear hC hO
 generalize mb.planC = pC at HPl HP0
 generalize mb.chk = kC at HCk HC0
 go_wp2_with (refine wpList_store_row rfl 32 (.tmp 13) (.tmp 61) rfl wB.heap.size _ rfl rfl _ _ (Blk.new _ _ _) (by kernel_rfl) rfl HO2.out ?_; rw [World.setRow_alloc_new]; refine Hid.out ?_)
 generalize hW : World.alloc _ _ = wC
 obtain ⟨b1, hg⟩ := blk1 hW
 clear hW
 have HXC := hid b1
 have HGC := hid hg
 have HWC : Hid (Grow w wC) := hid (HGB.out.trans hg)
 clear b1 hg HGB
 generalize hgb : wB.heap.size = gb at HXC ⊢
 clear hgb
 refine hid ?_
 rcases hv with ⟨h0, rfl⟩ | ⟨_, bb, rfl⟩
 rotate_left
 ·clear HPl HCk HP0 HC0 HXC HGC
  go_wp2
  go_ret
  exact ⟨rfl, HWC.out⟩
 have HPl := hid (HPl.out h0)
 have HCk := hid (HCk.out h0)
 obtain rfl := HP0.out h0
 obtain rfl := HC0.out h0
 clear HP0 HC0 h0
 obtain ⟨y0, y1, y2, y3, y4, y5, y6, y7, y8, y9, y10⟩ := HXC.out.c11
 go_wp2_with fail
 clear y0 y1 y2 y3 y4 y5 y6 y7 y8 y9 y10
 refine (HPl.out wC HGC.out).mono ?_
 rintro e wD ⟨a, b, d, A5, n5, c5, A6, n6, c6, rfl, hg⟩
 have HXD := hid (HXC.out.grow hg)
 have HGD : Hid (Grow wB wD) := hid (HGC.out.trans hg)
 have HWD : Hid (Grow w wD) := hid (HWC.out.trans hg)
 clear hg HXC HGC HWC HPl
 have hga := Grow.of_alloc wD (.cells #[.int .u64 (a : Nat), .int .u64 (b : Nat), .int .u64 (d : Nat), .slice A5 n5 c5, .slice A6 n6 c6] 38)
 obtain ⟨y0, y1, y2, y3, y4, y5, y6, y7, y8, y9, y10⟩ := (HXD.out.grow hga).c11
 go_wp2_with fail
 clear y0 y1 y2 y3 y4 y5 y6 y7 y8 y9 y10
 refine (HCk.out _ (HGD.out.trans hga)).mono ?_
 rintro e wE ⟨rfl, hg⟩
 have HWE : Hid (Grow w wE) := hid ((HWD.out.trans hga).trans hg)
 clear hg hga HXD HGD HWD HCk
 rw [eC_zero]
 go_wp2
 go_ret
 exact ⟨rfl, HWE.out⟩
theorem wf_u8 {n : Int} (h : (Lit.int .u8 n).wf = true) : 0 ≤ n ∧ n ≤ 255 := by
 simpa [Lit.wf, IntKind.bits, IntKind.signed] using bounds_u8 h
theorem rb_of_cells (w : World) (x : Addr) (len cap : Nat) (zs : List Int) (hl : len ≤ cap) (hm : cap ≤ maxLen) (hz : zs.length = cap)
  (hcell : ∀ i, i < zs.length → w.cell? (x.add i) = some (.int .u8 (zs.getD i 0))) (hwf : ∀ n ∈ zs, (Lit.int .u8 n).wf = true) :
  RB w w.heap.size (some x) len cap ((zs.take len).map fun n => UInt8.ofNat n.toNat) := by
 refine ⟨by simp; omega, hl, hm, fun hp => ?_⟩
 obtain ⟨b, off, spot⟩ := x
 have h0 := hcell 0 (by omega)
 have hspot : spot = none := by simpa [Addr.add] using World.cell?_spot h0
 subst hspot
 refine ⟨b, off, rfl, ?_, fun j hj => ?_⟩
 ·rcases Nat.lt_or_ge b w.heap.size with h | h
  ·exact h
  ·simp [Addr.add, World.cell?, Array.getElem?_eq_none h] at h0
 ·have hj' : j < len := by simp at hj; omega
  have e2 : (⟨b, off, none⟩ : Addr).add j = ⟨b, off + j, none⟩ := by unfold Addr.add; split <;> simp_all
  rw [← e2, hcell j (by omega)]
  have hjz : j < zs.length := by omega
  have hb := wf_u8 (hwf zs[j] (List.getElem_mem hjz))
  simp only [List.getElem_map, List.getElem_take, List.getD_eq_getElem?_getD, List.getElem?_eq_getElem hjz, Option.getD_some]
  congr 2
  rw [UInt8.toNat_ofNat', Nat.mod_eq_of_lt (by omega)]
  omega
end Go.Proofs.YtfglppjilcaafaaGreatDoor
namespace Go.Proofs.YtfglppjilcaafaaGreatDoor
open Go.Lib (hid)
open Go.ChangeShapes Go.WideShapes Go.RowKit Go.Joins Go.Deep
set_option maxRecDepth 100000
section
variable {H : Type} {enc : TypeId × Value → H} {w : World} {base : Nat} {spare : Nat → Bool} {held : Bool}
theorem u64_of_cell {n : Nat} {v : Value} {y : DataW H × List MemPlace} (h : DataW.trod enc Tryz.prog w base spare held n 28 [v] = some y) : ∃ a : Nat, a < 18446744073709551616 ∧ v = .int .u64 (a : Int) := by
 obtain ⟨x, hx, _, hw⟩ := DataW.trod_int Tryz.underlying28 h
 have := bounds_u64 hw
 injection hx with hx
 exact ⟨x.toNat, by omega, by rw [hx]; congr 1; omega⟩
theorem open_u64 {r : Reach} {b0 : Nat} {v : Value} {d : DataW H} {p : List MemPlace} (hv : Value.okWide Tryz.prog w r b0 28 v) (h : DataW.Trod enc Tryz.prog w base spare held 28 v d p) : ∃ a : Nat, v = .int .u64 a ∧ a < 18446744073709551616 := by
 obtain ⟨x, rfl, _, _, hw⟩ := open_int Tryz.underlying28 hv h
 have hb := bounds_u64 hw
 exact ⟨x.toNat, by congr 1; omega, by omega⟩
theorem open_row {b0 : Nat} {r : Reach} {v : Value} {d : DataW H} {p : List MemPlace} (hv : Value.okWide Tryz.prog w r b0 33 v) (h : DataW.Trod enc Tryz.prog w base (fun _ => true) held 33 v d p) :
  ∃ (A : Option Addr) (n c : Nat) (l : List UInt8), v = .slice A n c ∧ RB w w.heap.size A n c l := by
 obtain ⟨A, n, c, rfl⟩ := okWide_slice Tryz.underlying33 hv
 obtain ⟨fuel, hf⟩ := h
 rcases open_ints Tryz.underlying33 Tryz.underlying5 (by kernel_rfl) hf with ⟨hcs, _⟩ | ⟨a, len', cap', zs, hcs, _, hl, hm, hz, hx, hcell, hwz⟩
 ·simp [Value.cells] at hcs
  obtain ⟨rfl, rfl, rfl⟩ := hcs
  exact ⟨none, 0, 0, [], rfl, RB.nil⟩
 ·simp [Value.cells] at hcs
  obtain ⟨rfl, rfl, rfl⟩ := hcs
  simp only [if_true] at hz
  exact ⟨some a, n, c, _, rfl, rb_of_cells w a n c zs hl hm hz hcell hwz⟩
end
set_option maxRecDepth 100000
section
variable {H : Type} {enc : TypeId × Value → H} {w : World} {base : Nat} {spare : Nat → Bool} {held : Bool}
theorem form_of_cells {n : Nat} {c0 c1 : Value} {y : DataW H × List MemPlace} (hf : DataW.trod enc Tryz.prog w base spare held n 23 [c0, c1] = some y) : ∃ wide big : Bool, c0 = .bool wide ∧ c1 = .bool big := by
 obtain ⟨x0, x1, m, _, _, k0, k1⟩ := trod_struct2 Tryz.underlying23 hf
 have k0' : DataW.trod enc Tryz.prog w base spare held m 4 [c0] = some x0 := by
  simpa [show Program.cellsOf Tryz.prog 4 = 1 by kernel_rfl] using k0
 have k1' : DataW.trod enc Tryz.prog w base spare held m 4 [c1] = some x1 := by
  simpa [show Program.cellsOf Tryz.prog 4 = 1 by kernel_rfl] using k1
 obtain ⟨wide, e0, _⟩ := DataW.trod_bool Tryz.underlying4 k0'
 obtain ⟨big, e1, _⟩ := DataW.trod_bool Tryz.underlying4 k1'
 injection e0 with e0
 injection e1 with e1
 exact ⟨wide, big, e0, e1⟩
end
set_option maxRecDepth 100000
def Light {H : Type} (t : TypeId) (d : DataW H) : Prop := ∀ q ∈ d.weights Tryz.prog t, q ≤ reachBytes
theorem mem_all {H : Type} {P : Program} {e : TypeId} {d : DataW H} : ∀ {l : List (DataW H)}, d ∈ l → ∀ q ∈ d.weights P e, q ∈ DataW.weightsAll P e l
 | a :: r, h, q, hq => by
  rw [DataW.weightsAll, List.mem_append]
  rcases List.mem_cons.1 h with e1 | e1
  ·subst e1; exact .inl hq
  ·exact .inr (mem_all e1 q hq)
theorem Light.field {H : Type} {t ty : TypeId} {fs : Array Field} {ds : List (DataW H)} {j : Nat} {d : DataW H} (h : Light t (.agg ds)) (hu : Tryz.prog.underlying t = some (.struct fs)) (ht : (fs.toList.map (·.type))[j]? = some ty) (hd : ds[j]? = some d) : Light ty d := fun q hq => by
 refine h q ?_
 simp only [DataW.weights, hu]
 exact DataW.weights_mem_each ht hd q hq
theorem Light.elem {H : Type} {t e : TypeId} {l r : List (DataW H)} {d : DataW H} (h : Light t (.slice l r)) (hu : Tryz.prog.underlying t = some (.slice e)) (hd : d ∈ l) : Light e d := fun q hq => by
 refine h q ?_
 simp only [DataW.weights, hu]
 exact List.mem_cons_of_mem _ (List.mem_append_left _ (mem_all hd q hq))
section
variable {H : Type} {enc : TypeId × Value → H} {w : World} {base : Nat} {held : Bool}
theorem nat32_of {n : Nat} {c : Value} {y : DataW H × List MemPlace} (h : DataW.trod enc Tryz.prog w base (fun _ => true) held n 27 [c] = some y) : ∃ a : Nat, a < 4294967296 ∧ c = .int .u32 (a : Int) := by
 obtain ⟨x, hx, _, hw⟩ := DataW.trod_int Tryz.underlying27 h
 have := bounds_u32 hw
 injection hx with hx
 exact ⟨x.toNat, by omega, by rw [hx]; congr 1; omega⟩
theorem nat16_of {n : Nat} {c : Value} {y : DataW H × List MemPlace} (h : DataW.trod enc Tryz.prog w base (fun _ => true) held n 26 [c] = some y) : ∃ a : Nat, a < 65536 ∧ c = .int .u16 (a : Int) := by
 obtain ⟨x, hx, _, hw⟩ := DataW.trod_int Tryz.underlying26 h
 have := bounds_u16 hw
 injection hx with hx
 exact ⟨x.toNat, by omega, by rw [hx]; congr 1; omega⟩
theorem nat8_of {n : Nat} {c : Value} {y : DataW H × List MemPlace} (h : DataW.trod enc Tryz.prog w base (fun _ => true) held n 5 [c] = some y) : ∃ a : Nat, a < 256 ∧ c = .int .u8 (a : Int) := by
 obtain ⟨x, hx, _, hw⟩ := DataW.trod_int Tryz.underlying5 h
 have := bounds_u8 hw
 injection hx with hx
 exact ⟨x.toNat, by omega, by rw [hx]; congr 1; omega⟩
theorem nat64_of {n : Nat} {c : Value} {y : DataW H × List MemPlace} (h : DataW.trod enc Tryz.prog w base (fun _ => true) held n 28 [c] = some y) : ∃ a : Nat, a < 18446744073709551616 ∧ c = .int .u64 (a : Int) := by
 obtain ⟨x, hx, _, hw⟩ := DataW.trod_int Tryz.underlying28 h
 have := bounds_u64 hw
 injection hx with hx
 exact ⟨x.toNat, by omega, by rw [hx]; congr 1; omega⟩
theorem int_of {n : Nat} {c : Value} {y : DataW H × List MemPlace} (h : DataW.trod enc Tryz.prog w base (fun _ => true) held n 3 [c] = some y) : ∃ a : Int, I64 a ∧ c = .int .i64 a := by
 obtain ⟨x, hx, _, hw⟩ := DataW.trod_int Tryz.underlying3 h
 have := bounds_i64 hw
 injection hx with hx
 exact ⟨x, by unfold I64; omega, hx⟩
theorem own_of {n : Nat} {v : Value} {y : DataW H × List MemPlace} (h : DataW.trod enc Tryz.prog w base (fun _ => true) held n 33 [v] = some y) : ∃ (A : Option Addr) (n c : Nat) (l : List UInt8), v = .slice A n c ∧ RB w w.heap.size A n c l ∧ (Light 33 y.1 → l.length ≤ reachBytes) := by
 rcases open_ints Tryz.underlying33 Tryz.underlying5 (by kernel_rfl) h with ⟨hcs, _⟩ | ⟨a, len', cap', zs, hcs, _, hl, hm, hz, hx, hcell, hwz⟩
 ·injection hcs with hcs
  exact ⟨none, 0, 0, [], hcs, RB.nil, fun _ => Nat.zero_le _⟩
 ·injection hcs with hcs
  simp only [if_true] at hz
  have hr := rb_of_cells w a len' cap' zs hl hm hz hcell hwz
  refine ⟨some a, len', cap', _, hcs, hr, fun hw => ?_⟩
  rw [← hr.len]
  subst hx
  have h1 := hw ((List.length (lits (H := H) .u8 (zs.take len')) + List.length (lits (H := H) .u8 (zs.drop len'))) * Tryz.prog.bytesOf 5) (by simp [DataW.weights, Tryz.underlying33])
  have hb : Tryz.prog.bytesOf 5 = 1 := by kernel_rfl
  rw [hb] at h1
  simp [lits] at h1
  omega
theorem pl_of {n : Nat} {c0 c1 c2 c3 : Value} {y : DataW H × List MemPlace} (h : DataW.trod enc Tryz.prog w base (fun _ => true) held n 68 [c0, c1, c2, c3] = some y) :
  ∃ (p : Pl) (A : Option Addr) (k c : Nat), (c0 = .int .i64 p.inn ∧ c1 = .int .u64 (p.off : Nat) ∧ c2 = .int .u64 (p.size : Nat) ∧ c3 = .slice A k c) ∧ p.Ok ∧ RB w w.heap.size A k c p.own ∧ (Light 68 y.1 → p.own.length ≤ reachBytes) := by
 obtain ⟨xs, m, -, he, hl, hx, hf⟩ := DataW.trod_struct Tryz.underlying68 h
 have hx4 : xs.length = 4 := hx
 have e64 : Program.cellsOf Tryz.prog 28 = 1 := by kernel_rfl
 have eI : Program.cellsOf Tryz.prog 3 = 1 := by kernel_rfl
 have eS : Program.cellsOf Tryz.prog 33 = 1 := by kernel_rfl
 match xs, hx4 with
 | [x0, x1, x2, x3], _ =>
  have h0 : DataW.trod enc Tryz.prog w base (fun _ => true) held m 3 [c0] = some x0 := by simpa [e64, eI, eS] using hf 0 _ rfl
  have h1 : DataW.trod enc Tryz.prog w base (fun _ => true) held m 28 [c1] = some x1 := by simpa [e64, eI, eS] using hf 1 _ rfl
  have h2 : DataW.trod enc Tryz.prog w base (fun _ => true) held m 28 [c2] = some x2 := by simpa [e64, eI, eS] using hf 2 _ rfl
  have h3 : DataW.trod enc Tryz.prog w base (fun _ => true) held m 33 [c3] = some x3 := by simpa [e64, eI, eS] using hf 3 _ rfl
  obtain ⟨a0, k0, q0⟩ := int_of h0
  obtain ⟨a1, k1, q1⟩ := nat64_of h1
  obtain ⟨a2, k2, q2⟩ := nat64_of h2
  obtain ⟨A, k, c, l, q3, hr, hw⟩ := own_of h3
  exact ⟨⟨a0, a1, a2, l⟩, A, k, c, ⟨q0, q1, q2, q3⟩, ⟨k0, k1, k2⟩, hr, fun hy => hw (by
   rw [he] at hy
   exact hy.field Tryz.underlying68 (j := 3) rfl rfl)⟩
theorem rows_of {α : Type} [Inhabited α] (K : RK α) {Ok : α → Prop} {S : α → Prop} {n : Nat} {v : Value} {y : DataW H × List MemPlace} {tS tE : TypeId} (hu : Tryz.prog.underlying tS = some (.slice tE)) (hz : Program.cellsOf Tryz.prog tE = K.z) (hz0 : 0 < K.z) (hsz : ∀ a v, (K.cs a v).size = K.z)
  (each : ∀ (n : Nat) (cs : List Value) (y : DataW H × List MemPlace), DataW.trod enc Tryz.prog w base (fun _ => true) held n tE cs = some y → ∃ (s : α) (r : Array Value), cs = r.toList ∧ RR K w w.heap.size r s ∧ Ok s ∧ (Light tE y.1 → S s))
  (h : DataW.trod enc Tryz.prog w base (fun _ => true) held n tS [v] = some y) :
  ∃ (A : Option Addr) (n c : Nat) (L : List α), v = .slice A n c ∧ ZR K w w.heap.size A n c L ∧ (∀ s ∈ L, Ok s) ∧ (Light tS y.1 → ∀ s ∈ L, S s) := by
 rcases open_slice hu h with ⟨hcs, _⟩ | ⟨a, len, cap, m, k, D, Pl, hcs, _, hl, hm, hmm, hy, hx⟩
 ·injection hcs with hcs
  exact ⟨none, 0, 0, [], hcs, ZR.nil, fun _ h => absurd h (by simp), fun _ _ h => absurd h (by simp)⟩
 ·injection hcs with hcs
  have hlm : len ≤ m := by rw [hmm]; split <;> omega
  rw [hz] at hx
  have all : ∀ i, i < len → ∃ x : α × Array Value, RR K w w.heap.size x.2 x.1 ∧ Ok x.1 ∧ (Light tE (D i) → S x.1) ∧ ∀ j u, x.2[j]? = some u → w.cell? ((a.add (i * K.z)).add j) = some u := by
   intro i hi
   obtain ⟨cs, hc, ht⟩ := hx i (by omega)
   obtain ⟨_, hcl, hat⟩ := World.cells?_some hc
   obtain ⟨s, r, rfl, hr, ho, hs⟩ := each _ _ _ ht
   have hrz : r.size = K.z := by
    obtain ⟨_, _, _, e, _⟩ := hr
    rw [e]
    exact hsz _ _
   refine ⟨⟨s, r⟩, hr, ho, hs, fun j u hu => ?_⟩
   have hj : j < K.z := by
    have h1 : j < r.size := (Array.getElem?_eq_some_iff.1 hu).1
    rw [hrz] at h1
    exact h1
   rw [hat j hj]
   simpa using hu
  obtain ⟨q, hq⟩ := choose_lt all
  have hqz : ∀ i, i < len → (q i).2.size = K.z := fun i hi => by
   obtain ⟨_, _, _, e, _⟩ := (hq i hi).1
   rw [e]
   exact hsz _ _
  refine ⟨some a, len, cap, (List.range len).map (fun i => (q i).1), hcs, ⟨(List.range len).map (fun i => (q i).2), ⟨by simp, hl, hm, fun x hx => ?_, fun hp => ?_⟩, by simp, fun j h1 h2 => ?_⟩, fun s hs => ?_, fun hw s hs => ?_⟩
  ·obtain ⟨j, hj, rfl⟩ := List.mem_map.1 hx
   exact hqz j (by simpa using hj)
  ·obtain ⟨b, off, spot⟩ := a
   have hs0 := hqz 0 hp
   obtain ⟨u0, hu0⟩ : ∃ u, (q 0).2[0]? = some u := ⟨(q 0).2[0], by simp⟩
   have h0 := (hq 0 hp).2.2.2 0 u0 hu0
   have hspot : spot = none := by simpa [Addr.add] using World.cell?_spot h0
   subst hspot
   have e2 : ∀ i j, ((⟨b, off, none⟩ : Addr).add i).add j = ⟨b, off + i + j, none⟩ := by
    have e1 : ∀ (o i : Nat), (⟨b, o, none⟩ : Addr).add i = ⟨b, o + i, none⟩ := by intro o i; unfold Addr.add; split <;> simp_all
    intro i j
    rw [e1, e1]
   refine ⟨b, off, rfl, ?_, fun j hj i u hu => ?_⟩
   ·rcases Nat.lt_or_ge b w.heap.size with h | h
    ·exact h
    ·simp [Addr.add, World.cell?, Array.getElem?_eq_none h] at h0
   ·have hj' : j < len := by simpa using hj
    have h1 := (hq j hj').2.2.2 i u (by simpa using hu)
    rw [e2] at h1
    exact h1
  ·have hj : j < len := by simpa using h1
   have := (hq j hj).1
   simpa using this
  ·obtain ⟨j, hj, rfl⟩ := List.mem_map.1 hs
   exact (hq j (by simpa using hj)).2.1
  ·obtain ⟨j, hj, rfl⟩ := List.mem_map.1 hs
   have hj' : j < len := by simpa using hj
   refine (hq j hj').2.2.1 ?_
   rw [hy] at hw
   exact hw.elem hu (List.mem_map.2 ⟨j, by simpa using hj', rfl⟩)
theorem sg_of {n : Nat} {cs : List Value} {y : DataW H × List MemPlace} (h : DataW.trod enc Tryz.prog w base (fun _ => true) held n 70 cs = some y) : ∃ (s : Sg) (r : Array Value), cs = r.toList ∧ RR sgK w w.heap.size r s ∧ s.Ok ∧ (Light 70 y.1 → s.pl.own.length ≤ reachBytes) := by
 obtain ⟨xs, m, -, he, hl, hx, hf⟩ := DataW.trod_struct Tryz.underlying70 h
 have hx7 : xs.length = 7 := hx
 have hl10 : cs.length = 10 := hl.trans (by kernel_rfl)
 have e32 : Program.cellsOf Tryz.prog 27 = 1 := by kernel_rfl
 have e64 : Program.cellsOf Tryz.prog 28 = 1 := by kernel_rfl
 have eP : Program.cellsOf Tryz.prog 68 = 4 := by kernel_rfl
 match cs, hl10, xs, hx7 with
 | [c0, c1, c2, c3, c4, c5, c6, c7, c8, c9], _, [x0, x1, x2, x3, x4, x5, x6], _ =>
  have h0 : DataW.trod enc Tryz.prog w base (fun _ => true) held m 27 [c0] = some x0 := by simpa [e32, e64, eP] using hf 0 _ rfl
  have h1 : DataW.trod enc Tryz.prog w base (fun _ => true) held m 27 [c1] = some x1 := by simpa [e32, e64, eP] using hf 1 _ rfl
  have h2 : DataW.trod enc Tryz.prog w base (fun _ => true) held m 28 [c2] = some x2 := by simpa [e32, e64, eP] using hf 2 _ rfl
  have h3 : DataW.trod enc Tryz.prog w base (fun _ => true) held m 28 [c3] = some x3 := by simpa [e32, e64, eP] using hf 3 _ rfl
  have h4 : DataW.trod enc Tryz.prog w base (fun _ => true) held m 28 [c4] = some x4 := by simpa [e32, e64, eP] using hf 4 _ rfl
  have h5 : DataW.trod enc Tryz.prog w base (fun _ => true) held m 28 [c5] = some x5 := by simpa [e32, e64, eP] using hf 5 _ rfl
  have h6 : DataW.trod enc Tryz.prog w base (fun _ => true) held m 68 [c6, c7, c8, c9] = some x6 := by simpa [e32, e64, eP] using hf 6 _ rfl
  obtain ⟨a0, k0, rfl⟩ := nat32_of h0
  obtain ⟨a1, k1, rfl⟩ := nat32_of h1
  obtain ⟨a2, k2, rfl⟩ := nat64_of h2
  obtain ⟨a3, k3, rfl⟩ := nat64_of h3
  obtain ⟨a4, k4, rfl⟩ := nat64_of h4
  obtain ⟨a5, k5, rfl⟩ := nat64_of h5
  obtain ⟨p, A, k, c, ⟨rfl, rfl, rfl, rfl⟩, ok, hr, hw⟩ := pl_of h6
  exact ⟨⟨a0, a1, a2, a3, a4, a5, p⟩, _, rfl, ⟨A, k, c, rfl, hr⟩, ⟨k0, k1, k2, k3, k4, k5, ok⟩, fun hy => hw (by
   rw [he] at hy
   exact hy.field Tryz.underlying70 (j := 6) rfl rfl)⟩
theorem se_of {n : Nat} {cs : List Value} {y : DataW H × List MemPlace} (h : DataW.trod enc Tryz.prog w base (fun _ => true) held n 72 cs = some y) : ∃ (s : Se) (r : Array Value), cs = r.toList ∧ RR seK w w.heap.size r s ∧ s.Ok ∧ (Light 72 y.1 → s.pl.own.length ≤ reachBytes) := by
 obtain ⟨xs, m, -, he, hl, hx, hf⟩ := DataW.trod_struct Tryz.underlying72 h
 have hx10 : xs.length = 10 := hx
 have hl13 : cs.length = 13 := hl.trans (by kernel_rfl)
 have e32 : Program.cellsOf Tryz.prog 27 = 1 := by kernel_rfl
 have e64 : Program.cellsOf Tryz.prog 28 = 1 := by kernel_rfl
 have eP : Program.cellsOf Tryz.prog 68 = 4 := by kernel_rfl
 match cs, hl13, xs, hx10 with
 | [c0, c1, c2, c3, c4, c5, c6, c7, c8, c9, c10, c11, c12], _, [x0, x1, x2, x3, x4, x5, x6, x7, x8, x9], _ =>
  have h0 : DataW.trod enc Tryz.prog w base (fun _ => true) held m 27 [c0] = some x0 := by simpa [e32, e64, eP] using hf 0 _ rfl
  have h1 : DataW.trod enc Tryz.prog w base (fun _ => true) held m 27 [c1] = some x1 := by simpa [e32, e64, eP] using hf 1 _ rfl
  have h2 : DataW.trod enc Tryz.prog w base (fun _ => true) held m 28 [c2] = some x2 := by simpa [e32, e64, eP] using hf 2 _ rfl
  have h3 : DataW.trod enc Tryz.prog w base (fun _ => true) held m 28 [c3] = some x3 := by simpa [e32, e64, eP] using hf 3 _ rfl
  have h4 : DataW.trod enc Tryz.prog w base (fun _ => true) held m 28 [c4] = some x4 := by simpa [e32, e64, eP] using hf 4 _ rfl
  have h5 : DataW.trod enc Tryz.prog w base (fun _ => true) held m 27 [c5] = some x5 := by simpa [e32, e64, eP] using hf 5 _ rfl
  have h6 : DataW.trod enc Tryz.prog w base (fun _ => true) held m 27 [c6] = some x6 := by simpa [e32, e64, eP] using hf 6 _ rfl
  have h7 : DataW.trod enc Tryz.prog w base (fun _ => true) held m 28 [c7] = some x7 := by simpa [e32, e64, eP] using hf 7 _ rfl
  have h8 : DataW.trod enc Tryz.prog w base (fun _ => true) held m 28 [c8] = some x8 := by simpa [e32, e64, eP] using hf 8 _ rfl
  have h9 : DataW.trod enc Tryz.prog w base (fun _ => true) held m 68 [c9, c10, c11, c12] = some x9 := by simpa [e32, e64, eP] using hf 9 _ rfl
  obtain ⟨a0, k0, rfl⟩ := nat32_of h0
  obtain ⟨a1, k1, rfl⟩ := nat32_of h1
  obtain ⟨a2, k2, rfl⟩ := nat64_of h2
  obtain ⟨a3, k3, rfl⟩ := nat64_of h3
  obtain ⟨a4, k4, rfl⟩ := nat64_of h4
  obtain ⟨a5, k5, rfl⟩ := nat32_of h5
  obtain ⟨a6, k6, rfl⟩ := nat32_of h6
  obtain ⟨a7, k7, rfl⟩ := nat64_of h7
  obtain ⟨a8, k8, rfl⟩ := nat64_of h8
  obtain ⟨p, A, k, c, ⟨rfl, rfl, rfl, rfl⟩, ok, hr, hw⟩ := pl_of h9
  exact ⟨⟨a0, a1, a2, a3, a4, a5, a6, a7, a8, p⟩, _, rfl, ⟨A, k, c, rfl, hr⟩, ⟨k0, k1, k2, k3, k4, k5, k6, k7, k8, ok⟩, fun hy => hw (by
   rw [he] at hy
   exact hy.field Tryz.underlying72 (j := 9) rfl rfl)⟩
theorem ident_of {n : Nat} {c0 c1 c2 c3 : Value} {y : DataW H × List MemPlace} (h : DataW.trod enc Tryz.prog w base (fun _ => true) held n 25 [c0, c1, c2, c3] = some y) :
  ∃ (wide big : Bool) (a b : Nat), a < 256 ∧ b < 256 ∧ c0 = .bool wide ∧ c1 = .bool big ∧ c2 = .int .u8 (a : Int) ∧ c3 = .int .u8 (b : Int) := by
 obtain ⟨xs, m, -, -, hl, hx, hf⟩ := DataW.trod_struct Tryz.underlying25 h
 have hx3 : xs.length = 3 := hx
 have e8 : Program.cellsOf Tryz.prog 5 = 1 := by kernel_rfl
 have eF : Program.cellsOf Tryz.prog 23 = 2 := by kernel_rfl
 match xs, hx3 with
 | [x0, x1, x2], _ =>
  have h0 : DataW.trod enc Tryz.prog w base (fun _ => true) held m 23 [c0, c1] = some x0 := by simpa [e8, eF] using hf 0 _ rfl
  have h1 : DataW.trod enc Tryz.prog w base (fun _ => true) held m 5 [c2] = some x1 := by simpa [e8, eF] using hf 1 _ rfl
  have h2 : DataW.trod enc Tryz.prog w base (fun _ => true) held m 5 [c3] = some x2 := by simpa [e8, eF] using hf 2 _ rfl
  obtain ⟨wide, big, r0, r1⟩ := form_of_cells h0
  obtain ⟨a, k1, r2⟩ := nat8_of h1
  obtain ⟨b, k2, r3⟩ := nat8_of h2
  exact ⟨wide, big, a, b, k1, k2, r0, r1, r2, r3⟩
theorem open_model {r : Reach} {b0 : Nat} {v : Value} {d : DataW H} {p : List MemPlace} (hv : Value.okWide Tryz.prog w r b0 32 v) (h : DataW.Trod enc Tryz.prog w base (fun _ => true) held 32 v d p) (hw : Light 32 d) :
  ∃ (m : Md) (A1 : Option Addr) (n1 c1 : Nat) (A2 : Option Addr) (n2 c2 : Nat), v = .agg (mdC m (.slice A1 n1 c1) (.slice A2 n2 c2)) ∧ m.Ok ∧ ZR sgK w w.heap.size A1 n1 c1 m.segs ∧ ZR seK w w.heap.size A2 n2 c2 m.secs ∧
   (∀ s ∈ m.segs, s.pl.own.length ≤ reachBytes) ∧ (∀ s ∈ m.secs, s.pl.own.length ≤ reachBytes) := by
 obtain ⟨cs, rfl, hsz⟩ := okWide_struct Tryz.underlying32 hv
 obtain ⟨fuel, hfu⟩ := h
 have hsz11 : cs.size = 11 := hsz.trans (by kernel_rfl)
 obtain ⟨xs, m, -, he, hl, hx, hf⟩ := DataW.trod_struct Tryz.underlying32 hfu
 have hx8 : xs.length = 8 := hx
 have e16 : Program.cellsOf Tryz.prog 26 = 1 := by kernel_rfl
 have e32 : Program.cellsOf Tryz.prog 27 = 1 := by kernel_rfl
 have e64 : Program.cellsOf Tryz.prog 28 = 1 := by kernel_rfl
 have eI : Program.cellsOf Tryz.prog 3 = 1 := by kernel_rfl
 have eD : Program.cellsOf Tryz.prog 25 = 4 := by kernel_rfl
 have eG : Program.cellsOf Tryz.prog 29 = 1 := by kernel_rfl
 have eE : Program.cellsOf Tryz.prog 30 = 1 := by kernel_rfl
 match cs, hsz11, xs, hx8 with
 | ⟨[c0, c1, c2, c3, c4, c5, c6, c7, c8, c9, c10]⟩, _, [x0, x1, x2, x3, x4, x5, x6, x7], _ =>
  have h0 : DataW.trod enc Tryz.prog w base (fun _ => true) held m 25 [c0, c1, c2, c3] = some x0 := by simpa [e16, e32, e64, eI, eD, eG, eE, Value.cells] using hf 0 _ rfl
  have h1 : DataW.trod enc Tryz.prog w base (fun _ => true) held m 26 [c4] = some x1 := by simpa [e16, e32, e64, eI, eD, eG, eE, Value.cells] using hf 1 _ rfl
  have h2 : DataW.trod enc Tryz.prog w base (fun _ => true) held m 26 [c5] = some x2 := by simpa [e16, e32, e64, eI, eD, eG, eE, Value.cells] using hf 2 _ rfl
  have h3 : DataW.trod enc Tryz.prog w base (fun _ => true) held m 27 [c6] = some x3 := by simpa [e16, e32, e64, eI, eD, eG, eE, Value.cells] using hf 3 _ rfl
  have h4 : DataW.trod enc Tryz.prog w base (fun _ => true) held m 28 [c7] = some x4 := by simpa [e16, e32, e64, eI, eD, eG, eE, Value.cells] using hf 4 _ rfl
  have h5 : DataW.trod enc Tryz.prog w base (fun _ => true) held m 29 [c8] = some x5 := by simpa [e16, e32, e64, eI, eD, eG, eE, Value.cells] using hf 5 _ rfl
  have h6 : DataW.trod enc Tryz.prog w base (fun _ => true) held m 30 [c9] = some x6 := by simpa [e16, e32, e64, eI, eD, eG, eE, Value.cells] using hf 6 _ rfl
  have h7 : DataW.trod enc Tryz.prog w base (fun _ => true) held m 3 [c10] = some x7 := by simpa [e16, e32, e64, eI, eD, eG, eE, Value.cells] using hf 7 _ rfl
  obtain ⟨wide, big, a, b, k0, k0', rfl, rfl, rfl, rfl⟩ := ident_of h0
  obtain ⟨a1, k1, rfl⟩ := nat16_of h1
  obtain ⟨a2, k2, rfl⟩ := nat16_of h2
  obtain ⟨a3, k3, rfl⟩ := nat32_of h3
  obtain ⟨a4, k4, rfl⟩ := nat64_of h4
  obtain ⟨A1, n1, cc1, L1, rfl, z1, o1, w1⟩ := rows_of sgK Tryz.underlying29 (show Program.cellsOf Tryz.prog 70 = 10 by kernel_rfl) (by decide) (fun _ _ => rfl) (fun _ _ _ h => sg_of h) h5
  obtain ⟨A2, n2, cc2, L2, rfl, z2, o2, w2⟩ := rows_of seK Tryz.underlying30 (show Program.cellsOf Tryz.prog 72 = 13 by kernel_rfl) (by decide) (fun _ _ => rfl) (fun _ _ _ h => se_of h) h6
  obtain ⟨a7, k7, rfl⟩ := int_of h7
  have hd : d = .agg ([x0, x1, x2, x3, x4, x5, x6, x7].map (·.1)) := congrArg Prod.fst he
  rw [hd] at hw
  exact ⟨⟨wide, big, a, b, a1, a2, a3, a4, L1, L2, a7⟩, A1, n1, cc1, A2, n2, cc2, rfl, ⟨k0, k0', k1, k2, k3, k4, o1, o2, k7⟩, z1, z2, w1 (hw.field Tryz.underlying32 (j := 5) rfl rfl), w2 (hw.field Tryz.underlying32 (j := 6) rfl rfl)⟩
end
end Go.Proofs.YtfglppjilcaafaaGreatDoor
