/-
  Several texts in one: The walk of TopSame.
-/
import Derived.Test.YtfglppjilcaafaaGreatDoorTbH29
import Derived.Test.YtfglppjilcaafaaGreatDoorTbH37
import Derived.Test.YtfglppjilcaafaaGreatDoorTbH38
namespace Go.Proofs.YtfglppjilcaafaaGreatDoor
open Go.Lib (hid)
open Go.RowKit
set_option maxRecDepth 100000
set_option linter.unusedVariables false
theorem encG (m : Md) (h : Good m) (A1 A2 : Option Addr) (n1 c1 n2 c2 : Nat) (w : World) (g1 : ZR sgK w w.heap.size A1 n1 c1 m.segs) (g2 : ZR seK w w.heap.size A2 n2 c2 m.secs) :
  Calls Tryz.prog 9 #[.agg (mdC m (.slice A1 n1 c1) (.slice A2 n2 c2))] w fun e w' => ∃ g L, e = .returned (.tuple #[.slice (some ⟨g, 0, none⟩) L.length L.length, .nilIface]) ∧ FileIs m L ∧ L.length ≤ 65536 ∧ RB w' w'.heap.size (some ⟨g, 0, none⟩) L.length L.length L ∧ Grow w w' := by
 refine (encode_any m h.ok A1 A2 n1 c1 n2 c2 w g1 g2).mono ?_
 rintro e w' (⟨_, g, L, rfl, hf, hb, _, hg⟩ | ⟨h0, _⟩)
 ·have hl : L.length ≤ 65536 := by have := h.eT; have := hf.2; omega
  exact ⟨g, L, rfl, hf, hl, hb.rb (Nat.le_trans hl (by decide)), hg⟩
 ·exact absurd h.plan h0
theorem own_small {m : Md} (h : Good m) : ∀ s ∈ m.segs, s.pl.own.length ≤ 140737488355328 := fun s hs => by
 obtain ⟨k, hk, rfl⟩ := List.getElem_of_mem hs
 have e : m.segs[k] = m.sg k := by
  unfold Md.sg
  rw [List.getD_eq_getElem?_getD, List.getElem?_eq_getElem hk]
  rfl
 rw [e]
 have := h.z2 hk
 have a := h.planned.order
 have b := h.eT
 rcases this with h1 | ⟨_, h1⟩ <;> omega
theorem fileG (l : List UInt8) (hi : Img l) (A : Option Addr) (n c : Nat) (w : World) (hr : RB w w.heap.size A n c l) (hn : n ≤ 70000) :
  Calls Tryz.prog 14 #[.slice A n c] w fun e w' => ∃ A c, e = .returned (.tuple #[.agg #[.int .u64 ((hdOf l).en : Nat), .slice A (imL l).length c], .nilIface]) ∧ ZR rgK w' w'.heap.size A (imL l).length c (imL l) ∧ Grow w w' := by
 refine (imFile_any l A n c w hr (by omega)).mono ?_
 rintro e w' (⟨_, A2, c2, rfl, h1, h2⟩ | ⟨h0, _⟩)
 ·exact ⟨A2, c2, rfl, h1.zr, h2⟩
 ·exact absurd hi h0
set_option maxHeartbeats 20000000 in
theorem topSame_core (A : Option Addr) (n c : Nat) (l : List UInt8) (x : Nat) (hx : x < 18446744073709551616) (w : World) (hr : RB w w.heap.size A n c l) (hd : Door w) :
  Calls Tryz.prog 4 #[.slice A n c, .int .u64 x] w fun e w' => e = .returned (.bool true) ∧ Grow w w' := by
 have HPb := hid (fun W (hg : Grow w W) => parse_any l A n c W (hr.grow hg) (hd.grow hg))
 have HGh := hid (fun W (hg : Grow w W) => rGet_any A n c l W (hr.grow hg))
 have HFb := hid (fun (hi : Img l) (hn : n ≤ 70000) W (hg : Grow w W) => fileG l hi A n c W (hr.grow hg) hn)
 have HU := hid (upTop w hd)
 have HD := hid hd
 have hcap := hr.cap
 have hmax := hr.max
 unfold maxLen at hmax
 unfold ParseR at HPb
 unfold RGot at HGh
 clear hr hd
 go_enter Tryz.func4, Tryz.ntmps4
 go_wp2_with fail
 refine HU.out.mono ?_
 rintro e w1 ⟨rfl, hg⟩
 have HG1 := hid hg
 clear hg HU
 by_cases hbig : 70000 < n
 ·have d1 : decide ((70000 : Int) < (n : Int)) = true := decide_eq_true (by omega)
  go_wp2
  go_ret
  exact ⟨rfl, HG1.out⟩
 have d1 : decide ((70000 : Int) < (n : Int)) = false := decide_eq_false (by omega)
 have HN := hid (show n ≤ 70000 by omega)
 clear hbig
 go_wp2_with fail
 clear d1
 refine (HPb.out _ HG1.out).mono ?_
 rintro e w2 ⟨cc, p, mb, v, A1, n1, c1, A2, n2, c2, rfl, ht, he, z1, z2, hg⟩
 have HG2 : Hid (Grow w w2) := hid (HG1.out.trans hg)
 have hv : (cc = 0 ∧ v = .nilIface) ∨ (cc ≠ 0 ∧ ∃ bb, v = .iface 116 (.pointer (some ⟨bb, 0, none⟩))) := by
  rcases he with ⟨h, _, h'⟩ | ⟨h, b, h', _⟩
  ·exact .inl ⟨h, h'⟩
  ·exact .inr ⟨by omega, b, h'⟩
 have HK := hid (fun h0 : cc = 0 => told_good ht h0 z1.owns z2.owns)
 have HIm := hid (fun (h0 : cc = 0) hp => told_img ht h0 hp)
 have HHd := hid (fun h0 : cc = 0 => (told_zero ht h0).2.1)
 have HEm := hid (fun (h : Good mb) W (hg : Grow w2 W) => encG mb h A1 A2 n1 c1 n2 c2 W (z1.grow hg) (z2.grow hg))
 have HSm := hid (fun A3 A4 n3 c3 n4 c4 W (hg : Grow w2 W) h3 h4 => same_any mb A1 A2 A3 A4 n1 c1 n2 c2 n3 c3 n4 c4 W (z1.grow hg) (z2.grow hg) h3 h4)
 have HMi := hid (fun (h : Good mb) (ho : ∀ s ∈ mb.segs, s.pl.own.length ≤ 140737488355328) W (hg : Grow w2 W) => rImModel_any mb A1 n1 c1 (.slice A2 n2 c2) W (z1.grow hg) ho (by have := z1.len; have := h.n1; omega))
 have HPn := hid (fun (h : Good mb) => parse_back mb h)
 have HEn := hid (fun (h : Good mb) A3 A4 n3 c3 n4 c4 W h3 h4 => encG mb h A3 A4 n3 c3 n4 c4 W h3 h4)
 have HFc := hid (fun (h : Good mb) => file_back mb h)
 have HSi := hid (fun A1 A3 c1 c3 W => rSameImg_any mb.entry mb.img A1 A3 mb.img.length c1 mb.img.length c3 W)
 have HAt := hid (fun A c W h => at_any mb.entry A mb.img.length c mb.img x W h hx)
 have HOw := hid (fun h : Good mb => own_small h)
 unfold BackR at HPn
 unfold ImgR at HMi
 unfold imC at HSi HAt HMi
 clear z1 z2 ht he hg HG1 HPb
 obtain ⟨x0, x1, x2, x3, x4, x5, x6, x7, x10, hC, hO⟩ : ∃ x0 x1 x2 x3 x4 x5 x6 x7 x10 : Value, (∀ s t, mdC mb s t = #[x0, x1, x2, x3, x4, x5, x6, x7, s, t, x10]) ∧ (∀ p q i r j k, (#[x0, x1, x2, x3, x4, x5, x6, x7, .slice p i k, .slice q j r, x10] : Array Value).all (·.oneCell') = true) := ⟨_, _, _, _, _, _, _, _, _, fun _ _ => rfl, fun _ _ _ _ _ _ => by simp [Value.oneCell']⟩
 have HO := hid hO
 simp only [hC] at HEm HSm HMi HPn HEn ⊢
 clear hC hO
 go_wp2_with (refine wpList_store_row rfl 32 (.tmp 6) (.tmp 37) rfl w2.heap.size _ rfl rfl _ _ (Blk.new _ _ _) (by kernel_rfl) rfl (HO.out _ _ _ _ _ _) ?_; rw [World.setRow_alloc_new]; refine Hid.out ?_)
 generalize hW : World.alloc _ _ = w3
 obtain ⟨b6, hg⟩ := blk1 hW
 clear hW
 have HA1 := hid (HG2.out.trans hg)
 have HB2 := hid hg
 have HM3 := hid b6
 clear b6 hg HG2
 generalize w2.heap.size = g6 at HM3 ⊢
 refine hid ?_
 rcases hv with ⟨h0, rfl⟩ | ⟨_, bb, rfl⟩
 rotate_left
 ·clear HK HIm HHd HEm HSm HMi HPn HEn HFc HSi HAt HGh HFb HB2 HM3
  go_wp2
  go_ret
  exact ⟨rfl, HA1.out⟩
 have HGo := hid (HK.out h0)
 have HIm := hid (HIm.out h0)
 have HHd := hid (HHd.out h0)
 have HEm := hid (HEm.out HGo.out)
 have HMi := hid (HMi.out HGo.out (HOw.out HGo.out))
 have HPn := hid (HPn.out HGo.out)
 have HEn := hid (HEn.out HGo.out)
 have HFc := hid (HFc.out HGo.out)
 clear HK h0 HOw HGo
 obtain ⟨v0, v1, v2, v3, v4, v5, v6, v7, v8, v9, v10⟩ := HM3.out.c11
 go_wp2_with fail
 clear v0 v1 v2 v3 v4 v5 v6 v7 v8 v9 v10
 refine (HEm.out _ HB2.out).mono ?_
 rintro e w4 ⟨gc, L, rfl, hf, hl, hrc, hg⟩
 have HF := hid hf
 have HLn := hid hl
 have HA4 : Hid (Grow w w4) := hid (HA1.out.trans hg)
 have HB5 : Hid (Grow w2 w4) := hid (HB2.out.trans hg)
 have HM6 := hid (HM3.out.grow hg)
 have HC7 := hid hrc
 clear hf hl hrc hg HEm HA1 HB2 HM3
 have HP := hid (HPn.out L [] HF.out (by rw [List.append_nil]; exact HLn.out) (some ⟨gc, 0, none⟩) L.length L.length w4 (by rw [List.append_nil]; exact HC7.out) (HD.out.grow HA4.out))
 have HFk := hid (fun W hr => HFc.out L HF.out HLn.out (some ⟨gc, 0, none⟩) L.length L.length W hr)
 have HOne := hid (fun L2 (h2 : FileIs mb L2) => h2.one HF.out)
 clear HPn HFc HLn HF
 have HLL : Hid (∀ (h : L.length = L.length), True) := hid fun _ => trivial
 go_wp2_with fail
 refine HP.out.mono ?_
 rintro e w5 ⟨A3, n3, c3, A4, n4, c4, rfl, z3, z4, hg⟩
 clear HLL
 have HA8 : Hid (Grow w w5) := hid (HA4.out.trans hg)
 have HB9 : Hid (Grow w2 w5) := hid (HB5.out.trans hg)
 have HM10 := hid (HM6.out.grow hg)
 have HC11 := hid (HC7.out.grow hg)
 have HY12 := hid z3
 have HZ13 := hid z4
 clear z3 z4 hg HP HA4 HB5 HM6 HC7
 go_wp2_with (refine wpList_store_row rfl 32 (.tmp 10) (.tmp 50) rfl w5.heap.size _ rfl rfl _ _ (Blk.new _ _ _) (by kernel_rfl) rfl (HO.out _ _ _ _ _ _) ?_; rw [World.setRow_alloc_new]; refine Hid.out ?_)
 generalize hW : World.alloc _ _ = w6
 obtain ⟨b10, hg⟩ := blk1 hW
 clear hW
 have HA14 : Hid (Grow w w6) := hid (HA8.out.trans hg)
 have HB15 : Hid (Grow w2 w6) := hid (HB9.out.trans hg)
 have HM16 := hid (HM10.out.grow hg)
 have HC17 := hid (HC11.out.grow hg)
 have HY18 := hid (HY12.out.grow hg)
 have HZ19 := hid (HZ13.out.grow hg)
 have HN20 := hid b10
 clear b10 hg HA8 HB9 HM10 HC11 HY12 HZ13
 generalize w5.heap.size = g10 at HN20 ⊢
 refine hid ?_
 obtain ⟨v0, v1, v2, v3, v4, v5, v6, v7, v8, v9, v10⟩ := HN20.out.c11
 go_wp2_with fail
 clear v0 v1 v2 v3 v4 v5 v6 v7 v8 v9 v10
 refine (HEn.out A3 A4 n3 c3 n4 c4 w6 HY18.out HZ19.out).mono ?_
 rintro e w7 ⟨gd, L2, rfl, hf, hl, hrd, hg⟩
 obtain rfl := HOne.out L2 hf
 have HA21 : Hid (Grow w w7) := hid (HA14.out.trans hg)
 have HB22 : Hid (Grow w2 w7) := hid (HB15.out.trans hg)
 have HM23 := hid (HM16.out.grow hg)
 have HC24 := hid (HC17.out.grow hg)
 have HY25 := hid (HY18.out.grow hg)
 have HZ26 := hid (HZ19.out.grow hg)
 have HN27 := hid (HN20.out.grow hg)
 have HD28 := hid hrd
 clear hf hl hrd hg HEn HOne HA14 HB15 HM16 HC17 HY18 HZ19 HN20
 have s1 := (HC24.out).conv (Nat.le_refl _) w7 (Grow.refl _)
 have s2 := (HD28.out).conv (Nat.le_refl _) w7 (Grow.refl _)
 obtain ⟨v0, v1, v2, v3, v4, v5, v6, v7, v8, v9, v10⟩ := HM23.out.c11
 obtain ⟨y0, y1, y2, y3, y4, y5, y6, y7, y8, y9, y10⟩ := HN27.out.c11
 go_wp2_with fail
 clear v0 v1 v2 v3 v4 v5 v6 v7 v8 v9 v10 y0 y1 y2 y3 y4 y5 y6 y7 y8 y9 y10
 clear s1 s2
 refine (HSm.out A3 A4 n3 c3 n4 c4 w7 HB22.out HY25.out HZ26.out).mono ?_
 rintro e w8 ⟨rfl, hg⟩
 have HA29 : Hid (Grow w w8) := hid (HA21.out.trans hg)
 have HB30 : Hid (Grow w2 w8) := hid (HB22.out.trans hg)
 have HM31 := hid (HM23.out.grow hg)
 have HC32 := hid (HC24.out.grow hg)
 clear hg HSm HN27 HY25 HZ26 HD28 HA21 HB22 HM23 HC24
 go_wp2_with fail
 refine (HFk.out w8 HC32.out).mono ?_
 rintro e w9 ⟨A5, c5, rfl, hz, hg⟩
 have HA33 : Hid (Grow w w9) := hid (HA29.out.trans hg)
 have HB34 : Hid (Grow w2 w9) := hid (HB30.out.trans hg)
 have HM35 := hid (HM31.out.grow hg)
 have HI36 := hid hz
 clear hz hg HFk HC32 HA29 HB30 HM31
 go_wp2_with fail
 generalize hW : World.alloc _ _ = w10
 obtain ⟨b14, hg⟩ := blk1 hW
 clear hW
 have hg := hg.trans (Grow.of_drew w10)
 have HA37 : Hid (Grow w w10.drew) := hid (HA33.out.trans hg)
 have HB38 : Hid (Grow w2 w10.drew) := hid (HB34.out.trans hg)
 have HM39 := hid (HM35.out.grow hg)
 have HI40 := hid (HI36.out.grow hg)
 have HX41 := hid b14.drew
 clear b14 hg HA33 HB34 HM35 HI36
 generalize w9.heap.size = g14 at HX41 ⊢
 refine wp_region_chain [(0, true), (1, true), (2, false), (3, false), (4, true)] (by kernel_rfl) (by kernel_rfl) (by kernel_rfl) ?_
 generalize w10.drew = w11 at HA37 HB38 HM39 HI40 HX41 ⊢
 have q0 : ∀ W, Grow w11 W → W.cell? ⟨g6, 0, none⟩ = some (x0) := fun W hW => (HM39.out.grow hW).at 0
 have q1 : ∀ W, Grow w11 W → W.cell? ⟨g6, 1, none⟩ = some (x1) := fun W hW => (HM39.out.grow hW).at 1
 have q2 : ∀ W, Grow w11 W → W.cell? ⟨g6, 2, none⟩ = some (x2) := fun W hW => (HM39.out.grow hW).at 2
 have q3 : ∀ W, Grow w11 W → W.cell? ⟨g6, 3, none⟩ = some (x3) := fun W hW => (HM39.out.grow hW).at 3
 have q4 : ∀ W, Grow w11 W → W.cell? ⟨g6, 4, none⟩ = some (x4) := fun W hW => (HM39.out.grow hW).at 4
 have q5 : ∀ W, Grow w11 W → W.cell? ⟨g6, 5, none⟩ = some (x5) := fun W hW => (HM39.out.grow hW).at 5
 have q6 : ∀ W, Grow w11 W → W.cell? ⟨g6, 6, none⟩ = some (x6) := fun W hW => (HM39.out.grow hW).at 6
 have q7 : ∀ W, Grow w11 W → W.cell? ⟨g6, 7, none⟩ = some (x7) := fun W hW => (HM39.out.grow hW).at 7
 have q8 : ∀ W, Grow w11 W → W.cell? ⟨g6, 8, none⟩ = some (.slice A1 n1 c1) := fun W hW => (HM39.out.grow hW).at 8
 have q9 : ∀ W, Grow w11 W → W.cell? ⟨g6, 9, none⟩ = some (.slice A2 n2 c2) := fun W hW => (HM39.out.grow hW).at 9
 have q10 : ∀ W, Grow w11 W → W.cell? ⟨g6, 10, none⟩ = some (x10) := fun W hW => (HM39.out.grow hW).at 10
 have r0 : ∀ W, Grow w11 W → W.cell? ⟨g14, 0, none⟩ = some (.int .u64 (mb.entry : Nat)) := fun W hW => (HX41.out.grow hW).at 0
 have r1 : ∀ W, Grow w11 W → W.cell? ⟨g14, 1, none⟩ = some (.slice A5 mb.img.length c5) := fun W hW => (HX41.out.grow hW).at 1
 repeat ((first | (refine chain_take rfl (by rfl) ?_ (fun W hG => ?_) ?_; rotate_left; (go_simp; rfl)) | refine chain_skip rfl (by rfl) ?_); simp only [Act.put, List.setIfInBounds_toArray, List.set_cons_zero, List.set_cons_succ])
 clear q0 q1 q2 q3 q4 q5 q6 q7 q8 q9 q10 r0 r1
 refine chain_only rfl (by rfl) (fun K hK => ?_)
 go_simp
 refine (HMi.out _ HB38.out).mono ?_
 rintro e w12 ⟨A6, c6, rfl, hgr, hg⟩
 refine hK _ _ hg ?_
 clear hK K
 have HA42 : Hid (Grow w w12) := hid (HA37.out.trans hg)
 have HI43 := hid (HI40.out.grow hg)
 have HX44 := hid (HX41.out.grow hg)
 have HJ45 := hid hgr.zr
 clear hgr hg HMi HM39 HB38 HA37 HI40 HX41
 refine chain_only rfl (by rfl) (fun K hK => ?_)
 go_simp
 refine (HSi.out A5 A6 c5 c6 w12 HI43.out HJ45.out).mono ?_
 rintro e w13 ⟨rfl, hg⟩
 refine hK _ _ hg ?_
 clear hK K
 have HA46 : Hid (Grow w w13) := hid (HA42.out.trans hg)
 have HI47 := hid (HI43.out.grow hg)
 have HX48 := hid (HX44.out.grow hg)
 clear hg HJ45 HA42 HI43 HX44
 repeat ((first | (refine chain_take rfl (by rfl) ?_ (fun W hG => ?_) ?_; rotate_left; (go_simp; rfl)) | refine chain_skip rfl (by rfl) ?_); simp only [Act.put, List.setIfInBounds_toArray, List.set_cons_zero, List.set_cons_succ])
 refine chain_done ?_
 go_wp2_with fail
 refine (HGh.out _ HA46.out).mono ?_
 rintro e w14 ⟨ch, ph, vh, rfl, hth, hg⟩
 obtain ⟨rfl, rfl, rfl⟩ := hth.one HHd.out
 have HA49 : Hid (Grow w w14) := hid (HA46.out.trans hg)
 have HI50 := hid (HI47.out.grow hg)
 have HX51 := hid (HX48.out.grow hg)
 clear hg hth HHd HGh HA46 HI47 HX48
 obtain ⟨h0, h1, h2, h3, h4, h5, h6, h7, h8, h9, h11, h12, hC, hO⟩ : ∃ h0 h1 h2 h3 h4 h5 h6 h7 h8 h9 h11 h12 : Value, (hdOf l).V = .agg #[h0, h1, h2, h3, h4, h5, h6, h7, h8, h9, .int .u16 ((hdOf l).pn : Nat), h11, h12] ∧ (#[h0, h1, h2, h3, h4, h5, h6, h7, h8, h9, .int .u16 ((hdOf l).pn : Nat), h11, h12] : Array Value).all (·.oneCell') = true := ⟨_, _, _, _, _, _, _, _, _, _, _, _, rfl, (hdOf l).one⟩
 have HO2 := hid hO
 rw [hC]
 clear hC hO
 generalize (hdOf l).pn = pn at HIm HO2 ⊢
 go_wp2_with (refine wpList_store_row rfl 58 (.tmp 17) (.tmp 96) rfl w14.heap.size _ rfl rfl _ _ (Blk.new _ _ _) (by kernel_rfl) rfl HO2.out ?_; rw [World.setRow_alloc_new]; refine Hid.out ?_)
 generalize hW : World.alloc _ _ = w15
 obtain ⟨b17, hg⟩ := blk1 hW
 clear hW
 have HA52 : Hid (Grow w w15) := hid (HA49.out.trans hg)
 have HI53 := hid (HI50.out.grow hg)
 have HX54 := hid (HX51.out.grow hg)
 have p7 := b17.at 10
 clear hg b17 HA49 HI50 HX51
 generalize w14.heap.size = g17 at p7 ⊢
 refine hid ?_
 by_cases hp : pn = 65535
 ·have d2 : ((pn : Int) == 65535) = true := by simp [hp]
  clear hp HIm
  go_wp2
  go_ret
  exact ⟨rfl, HA52.out⟩
 have d2 : ((pn : Int) == 65535) = false := by simp; omega
 obtain ⟨hi, he1, he2⟩ := HIm.out hp
 have HFl := hid (HFb.out hi HN.out)
 rw [he1, he2] at HFl
 clear hp hi he1 he2 HIm HFb
 go_wp2_with fail
 clear p7 d2
 refine (HFl.out _ HA52.out).mono ?_
 rintro e w16 ⟨A7, c7, rfl, hz, hg⟩
 have HA55 : Hid (Grow w w16) := hid (HA52.out.trans hg)
 have HI56 := hid (HI53.out.grow hg)
 have HX57 := hid (HX54.out.grow hg)
 have HK58 := hid hz
 clear hz hg HFl HA52 HI53 HX54
 obtain ⟨y0, y1⟩ := (HX57.out.grow (Grow.of_alloc w16 (.cells #[.int .u64 (mb.entry : Nat), .slice A7 mb.img.length c7] 52))).c2
 go_wp2_with fail
 clear y0 y1
 generalize hW : World.alloc _ _ = w17
 obtain ⟨b20, hg⟩ := blk1 hW
 clear hW
 have HA59 : Hid (Grow w w17) := hid (HA55.out.trans hg)
 have HI60 := hid (HI56.out.grow hg)
 have HX61 := hid (HX57.out.grow hg)
 have HK62 := hid (HK58.out.grow hg)
 have HV63 := hid b20
 clear b20 hg HA55 HI56 HX57 HK58
 generalize w16.heap.size = g20 at HV63 ⊢
 refine (HSi.out A7 A5 c7 c5 w17 HK62.out HI60.out).mono ?_
 rintro e w18 ⟨rfl, hg⟩
 have HA64 : Hid (Grow w w18) := hid (HA59.out.trans hg)
 have HI65 := hid (HI60.out.grow hg)
 have HX66 := hid (HX61.out.grow hg)
 have HK67 := hid (HK62.out.grow hg)
 have HV68 := hid (HV63.out.grow hg)
 clear hg HSi HA59 HI60 HX61 HK62 HV63
 obtain ⟨y0, y1⟩ := HV68.out.c2
 go_wp2_with fail
 clear y0 y1
 refine (HAt.out A7 c7 w18 HK67.out).mono ?_
 rintro e w19 ⟨rfl, hg⟩
 have HA69 : Hid (Grow w w19) := hid (HA64.out.trans hg)
 have HI70 := hid (HI65.out.grow hg)
 have HX71 := hid (HX66.out.grow hg)
 clear hg HK67 HV68 HA64 HI65 HX66
 obtain ⟨y0, y1⟩ := HX71.out.c2
 go_wp2_with fail
 clear y0 y1
 refine (HAt.out A5 c5 w19 HI70.out).mono ?_
 rintro e w20 ⟨rfl, hg⟩
 have HGz : Hid (Grow w w20) := hid (HA69.out.trans hg)
 clear hg
 generalize atL mb.img x = T
 obtain ⟨t1, t2, t3⟩ := T
 go_wp2
 go_ret
 exact ⟨rfl, HGz.out⟩
end Go.Proofs.YtfglppjilcaafaaGreatDoor
