/-
  Several texts in one: The contracts of dyn; The contracts of rel; The contract of rel; The contract of rel.
-/
import Derived.Test.YtfpihkbpelbcbaaRtG10
import Derived.Test.YtfpihkbpelbcbaaRtG1
import Derived.Test.YtfpihkbpelbcbaaRtG4
import Derived.Test.YtfpihkbpelbcbaaRows
import Derived.Test.YtfpihkbpelbcbaaRtG3
import Derived.Test.YtfpihkbpelbcbaaRtG5
import Derived.WalkKit
import Derived.Laws.ResultCell
import Derived.Laws.Bits64b
import Derived.Lib.Hide
import Derived.Lib.SmallJoins
namespace Go.Proofs.Ytfpihkbpelbcbaa
open Go.Lib (hid)
open Go.RowKit
theorem ZS.dy {w : World} {B b off n c : Nat} {L : List Dy} (h : ZS w B 2 (some ⟨b, off, none⟩) n c (L.map Dy.C)) (k : Nat) (hk : k < L.length) (s : Dy) (hs : L[k] = s) :
  w.cell? ⟨b, off + k * 2, none⟩ = some (.int .u64 (s.tag : Int)) ∧ w.cell? ⟨b, off + k * 2 + 1, none⟩ = some (.int .u64 (s.val : Int)) := by
 have hn := h.len
 rw [List.length_map] at hn
 obtain ⟨b', off', e, _, hc⟩ := h.pos (by omega)
 injection e with e
 injection e with e1 e2
 subst e1; subst e2
 have hkm : k < (L.map Dy.C).length := by rw [List.length_map]; exact hk
 have hg : (L.map Dy.C)[k] = s.C := by rw [List.getElem_map, hs]
 have key := hc k hkm
 rw [hg] at key
 exact ⟨key 0 _ rfl, key 1 _ rfl⟩
def DFind (L : List Dy) (t : Nat) (w : World) (e : Ending) (w' : World) : Prop :=
 e = .returned (.tuple #[.int .u64 ((dyF L t).1 : Nat), .bool (dyF L t).2]) ∧ Grow w w'
theorem dFindRef_any (A : Option Addr) (n c : Nat) (L : List Dy) (t : Nat) (w : World) (h : ZS w w.heap.size 2 A n c (L.map Dy.C)) :
  Calls Try.prog 50 #[.slice A n c, .int .u64 t] w (DFind L t w) := by
 have HS := hid h
 have hl : n = L.length := by have := h.len; simpa using this
 have HL := hid hl
 have hc := h.cap
 have hm := h.max
 unfold maxLen at hm
 have HF : Hid (∀ k, n ≤ k → dyF (L.drop k) t = (0, false)) := hid (fun k hk => dyF_end L k t (by omega))
 have HA := hid (fun k (hk : k < L.length) => dyF_at (L := L) (t := t) hk)
 have H0 : Hid (dyF (L.drop 0) t = dyF L t) := hid rfl
 clear h hl
 unfold DFind
 generalize hY : dyF L t = Y at H0 ⊢
 have HY := hid hY
 clear hY
 obtain ⟨y1, y2⟩ := Y
 go_enter Try.func50, Try.ntmps50
 go_wp2_with fail
 go_loopw [6] (fun i wr => ∃ k : Nat, k ≤ n ∧ i = .int .i64 k ∧ dyF (L.drop k) t = (y1, y2) ∧ Grow w wr) (fun i _ => n - (intOf i).toNat)
 case atStart => exact ⟨0, Nat.zero_le _, rfl, H0.out, Grow.refl _⟩
 case round =>
  obtain ⟨k, hk, rfl, hf, hg⟩ := hrel
  have HFk := hid hf
  have HG := hid hg
  clear hf hg
  by_cases hlt : k < n
  ·obtain ⟨b, o, rfl, hb, -⟩ := HS.out.pos (by omega)
   have hkl : k < L.length := by rw [← HL.out]; exact hlt
   obtain ⟨s, hs⟩ : ∃ s, L[k] = s := ⟨_, rfl⟩
   have q1 := (HS.out.belowAt HG.out (Nat.le_refl _)).dy k hkl s hs
   have hA := HA.out k hkl
   rw [hs, HFk.out] at hA
   obtain ⟨tag, val⟩ := s
   clear hs hkl
   obtain ⟨p0, p1⟩ := q1
   simp only [] at hA p0 p1
   have z0 : (0 : Int) ≤ (k : Int) := by omega
   have z1 : (k : Int) < (n : Int) := by omega
   by_cases ht : tag = t
   ·have hA1 := hA.1 ht
    injection hA1 with e1 e2
    subst e1; subst e2; subst ht
    clear hA
    go_wp2
    go_ret2
    exact ⟨rfl, HG.out⟩
   ·have hA2 := hid (hA.2 ht)
    have d1 : ((tag : Int) == (t : Int)) = false := by simp; omega
    clear hA ht
    go_wp2
    go_roundw
    case rel => exact ⟨k + 1, by omega, by go_num, hA2.out, HG.out⟩
    case measure => simp [intOf]; omega
  ·have hE := HF.out k (by omega)
   rw [HFk.out] at hE
   injection hE with e1 e2
   subst e1; subst e2
   go_wp2
   go_ret2
   exact ⟨rfl, HG.out⟩
theorem dFind_any (A : Option Addr) (n c : Nat) (L : List Dy) (t : Nat) (w : World) (h : ZS w w.heap.size 2 A n c (L.map Dy.C)) :
  Calls Try.prog 66 #[.slice A n c, .int .u64 t] w (DFind L t w) := by
 have HS := hid h
 have hl : n = L.length := by have := h.len; simpa using this
 have HL := hid hl
 have hc := h.cap
 have hm := h.max
 unfold maxLen at hm
 have HF : Hid (∀ k, n ≤ k → dyF (L.drop k) t = (0, false)) := hid (fun k hk => dyF_end L k t (by omega))
 have HA := hid (fun k (hk : k < L.length) => dyF_at (L := L) (t := t) hk)
 have H0 : Hid (dyF (L.drop 0) t = dyF L t) := hid rfl
 clear h hl
 unfold DFind
 generalize hY : dyF L t = Y at H0 ⊢
 have HY := hid hY
 clear hY
 obtain ⟨y1, y2⟩ := Y
 go_enter Try.func66, Try.ntmps66
 go_wp2_with fail
 go_loopw [10] (fun i wr => ∃ k : Nat, k ≤ n ∧ i = .int .i64 k ∧ dyF (L.drop k) t = (y1, y2) ∧ Grow w wr) (fun i _ => n - (intOf i).toNat)
 case atStart => exact ⟨0, Nat.zero_le _, rfl, H0.out, Grow.refl _⟩
 case round =>
  obtain ⟨k, hk, rfl, hf, hg⟩ := hrel
  have HFk := hid hf
  have HG := hid hg
  clear hf hg
  by_cases hlt : k < n
  ·obtain ⟨b, o, rfl, hb, -⟩ := HS.out.pos (by omega)
   have hkl : k < L.length := by rw [← HL.out]; exact hlt
   obtain ⟨s, hs⟩ : ∃ s, L[k] = s := ⟨_, rfl⟩
   have HSw := hid (HS.out.belowAt HG.out (Nat.le_refl _))
   have HkM : Hid (k < (L.map Dy.C).length) := hid (by simpa using hkl)
   have HCk : Hid (∀ hk : k < (L.map Dy.C).length, (L.map Dy.C)[k] = s.C) := hid (fun _ => by rw [List.getElem_map, hs])
   have hA := HA.out k hkl
   rw [hs, HFk.out] at hA
   generalize L.map Dy.C = M at HSw HkM HCk
   obtain ⟨tag, val⟩ := s
   unfold Dy.C at HCk
   have HC1 : Hid ((#[.int .u64 (tag : Int), .int .u64 (val : Int)] : Array Value).all (·.oneCell') = true) := Dy.one ⟨tag, val⟩
   simp only [] at hA HCk
   clear hs hkl
   have z0 : (0 : Int) ≤ (k : Int) := by omega
   have z1 : (k : Int) < (n : Int) := by omega
   go_wp2_with (first | (refine wpList_load_zs HSw.out HkM.out rfl 77 (.tmp 12) rfl rfl _ Try.underlying77 rfl (by kernel_rfl) _ (HCk.out _) ?_) | (refine wpList_store_row rfl 77 (.tmp 7) (.tmp 13) rfl wr.heap.size _ rfl rfl _ _ (Blk.new _ _ _) (by kernel_rfl) rfl HC1.out ?_; rw [World.setRow_alloc_new]; refine Hid.out ?_))
   generalize hW : World.alloc _ _ = w3
   obtain ⟨br, hg3⟩ := blk1 hW
   have HBR := hid br
   have HG3 : Hid (Grow w w3) := HG.out.trans hg3
   generalize wr.heap.size = g8 at HBR ⊢
   clear hW hg3 br HG HSw HkM HCk HC1 z0 z1
   refine hid (wpList_nil ?_)
   unfold Exit.then
   apply_assumption
   have y0 := HBR.out.at 0
   have y1' := HBR.out.at 1
   simp at y0 y1'
   by_cases ht : tag = t
   ·have hA1 := hA.1 ht
    injection hA1 with e1 e2
    subst e1; subst e2; subst ht
    clear hA
    go_wp2
    go_ret2
    exact ⟨rfl, HG3.out⟩
   ·have hA2 := hid (hA.2 ht)
    have d1 : ((tag : Int) == (t : Int)) = false := by simp; omega
    clear hA ht
    go_wp2
    go_roundw
    case rel => exact ⟨k + 1, by omega, by go_num, hA2.out, HG3.out⟩
    case measure => simp [intOf]; omega
  ·have hE := HF.out k (by omega)
   rw [HFk.out] at hE
   injection hE with e1 e2
   subst e1; subst e2
   go_wp2
   go_ret2
   exact ⟨rfl, HG.out⟩
theorem reW_wid (wide : Bool) : wid (reW wide : Nat) = true := by cases wide <;> rfl
theorem reW_any (wide big : Bool) (w : World) : Calls Try.prog 91 #[.agg #[.bool wide, .bool big]] w fun e w' => e = .returned (.int .i64 (reW wide : Nat)) ∧ Grow w w' := by
 cases wide
 all_goals
  go_enter Try.func91, Try.ntmps91
  go_wp2
  go_ret
  exact ⟨rfl, Grow.of_alloc _ _⟩
theorem reBits_any (wide big : Bool) (w : World) : Calls Try.prog 92 #[.agg #[.bool wide, .bool big]] w fun e w' => e = .returned (.int .i64 (byWide wide 8 32 : Nat)) ∧ Grow w w' := by
 cases wide
 all_goals
  go_enter Try.func92, Try.ntmps92
  go_wp2
  go_ret
  exact ⟨rfl, Grow.of_alloc _ _⟩
theorem rWord_any (wide big : Bool) (w : World) : Calls Try.prog 22 #[.agg #[.bool wide, .bool big]] w fun e w' => e = .returned (.int .i64 (reW wide : Nat)) ∧ Grow w w' := by
 cases wide
 all_goals
  go_enter Try.func22, Try.ntmps22
  go_wp2
  go_ret
  exact ⟨rfl, Grow.of_alloc _ _⟩
theorem reSize_any (wide big adds : Bool) (w : World) : Calls Try.prog 84 #[.agg #[.bool wide, .bool big], .bool adds] w fun e w' => e = .returned (.int .i64 (reSize wide adds : Nat)) ∧ Grow w w' := by
 have HW := hid (fun w => reW_any wide big w)
 have h8 : reW wide ≤ 8 := by cases wide <;> decide
 cases adds
 case' false =>
  rw [show reSize wide false = 2 * reW wide from rfl]
  generalize reW wide = m at HW h8 ⊢
  have z2 : IntKind.i64.wrap (2 * (m : Int)) = ((2 * m : Nat) : Int) := by rw [IntKind.wrap_i64]; omega
 case' true =>
  rw [show reSize wide true = 3 * reW wide from rfl]
  generalize reW wide = m at HW h8 ⊢
  have z2 : IntKind.i64.wrap (3 * (m : Int)) = ((3 * m : Nat) : Int) := by rw [IntKind.wrap_i64]; omega
 all_goals
  clear h8
  go_enter Try.func84, Try.ntmps84
  go_wp2_with fail
  refine (HW.out _).mono ?_
  rintro e w1 ⟨rfl, hg1⟩
  have HG : Hid (Grow w w1) := (Grow.of_alloc _ _).trans hg1
  clear hg1
  go_wp2
  go_ret
  exact ⟨rfl, HG.out⟩
theorem reSg_any (wide big : Bool) (v : Nat) (hv : v < reM wide) (w : World) : Calls Try.prog 93 #[.int .u64 v, .agg #[.bool wide, .bool big]] w fun e w' => e = .returned (.int .i64 (sg wide v)) ∧ Grow w w' := by
 cases wide
 ·have z1 : IntKind.i32.wrap (v : Int) = sg false v := by
   rw [IntKind.wrap_i32]
   simp only [sg, reM, byWide, Bool.false_eq_true, if_false] at *
   split <;> omega
  have z2 : IntKind.i64.wrap (sg false v) = sg false v := by
   rw [IntKind.wrap_i64]
   simp only [sg, reM, byWide, Bool.false_eq_true, if_false] at *
   split <;> omega
  clear hv
  generalize sg false v = s at z1 z2 ⊢
  go_enter Try.func93, Try.ntmps93
  go_wp2
  go_ret
  exact ⟨rfl, Grow.of_alloc _ _⟩
 ·have z1 : IntKind.i64.wrap (v : Int) = sg true v := by
   rw [IntKind.wrap_i64]
   simp only [sg, reM, byWide, if_true] at *
   split <;> omega
  clear hv
  generalize sg true v = s at z1 ⊢
  go_enter Try.func93, Try.ntmps93
  go_wp2
  go_ret
  exact ⟨rfl, Grow.of_alloc _ _⟩
theorem relRow_any (wide big adds : Bool) (w : World) : Calls Try.prog 75 #[.agg #[.bool wide, .bool big], .bool adds] w fun e w' =>
  ∃ g, e = .returned (.slice (some ⟨g, 0, none⟩) (reN adds : Nat) (reN adds : Nat)) ∧ Blk w' g 3 (i64s (reRow wide adds)) ∧ w.heap.size ≤ g ∧ Grow w w' := by
 have HW := hid (fun w => rWord_any wide big w)
 unfold reRow
 generalize reW wide = m at HW ⊢
 cases adds
 all_goals
  go_enter Try.func75, Try.ntmps75
  go_wp2_with fail
  refine (HW.out _).mono ?_
  rintro e w1 ⟨rfl, hg1⟩
  have HG : Hid (Grow w w1) := (Grow.of_alloc _ _).trans hg1
  clear hg1
  go_wp2
  go_ret
  exact ⟨w1.heap.size, rfl, Blk.new _ _ _, HG.out.size, HG.out.trans (Grow.of_alloc _ _)⟩
def reG (l : List UInt8) (wide big : Bool) (q : Nat) : Nat := getB ((l.drop q).take (reW wide)) big
theorem reG_lt (l : List UInt8) (wide big : Bool) (q : Nat) : reG l wide big q < reM wide := by
 rw [← reM_pow]
 refine Nat.lt_of_lt_of_le (getB_lt _ big) (Nat.pow_le_pow_right (by decide) ?_)
 simp only [List.length_take]
 omega
theorem reOf_G (l : List UInt8) (wide adds big : Bool) : reOf l 0 wide adds big = ⟨reG l wide big 0, reG l wide big (reW wide) / reK wide, reG l wide big (reW wide) % reK wide, if adds then sg wide (reG l wide big (2 * reW wide)) else 0⟩ := by
 have e : nums l big 0 (reRow wide adds) = (if adds then [reG l wide big 0, reG l wide big (reW wide), reG l wide big (2 * reW wide)] else [reG l wide big 0, reG l wide big (reW wide)]) := by
  cases adds
  ·simp [nums, reRow, reG]
  ·simp [nums, reRow, reG, Nat.two_mul]
 rw [reOf, e, ofN_of]
theorem Below.setRow' {B g : Nat} (W : World) (hg : B ≤ g) (cs : Array Value) : Below B W (W.setRow g cs) := ⟨rfl, rfl, rfl, by simp, fun k hk => setRow_other W g k cs (by omega)⟩
set_option maxRecDepth 100000 in
set_option maxHeartbeats 400000 in
theorem eRead_any (A : Option Addr) (n c : Nat) (l : List UInt8) (wide adds big : Bool) (w : World) (h : RB w w.heap.size A n c l) (hn : n = reSize wide adds) :
  Calls Try.prog 85 #[.slice A n c, .agg #[.bool wide, .bool big], .bool adds] w fun e w' => e = .returned (reOf l 0 wide adds big).V ∧ Grow w w' := by
 have HR := hid h
 have hl := h.len
 clear h
 have HGet : Hid (∀ (q : Nat) (w' : World), RB w' w.heap.size A n c l → q + reW wide ≤ n → Calls Try.prog 70 #[.slice A n c, .int .u64 q, .int .i64 (reW wide : Nat), .bool big] w' fun e w2 =>
   e = .returned (.tuple #[.int .u64 (reG l wide big q : Nat), .bool true]) ∧ Grow w' w2) := hid fun q w' h hq => by
  have hg : gotB l q (reW wide : Nat) = true := by
   simp only [gotB, reW_wid, Bool.true_and, wthn]
   exact decide_eq_true (by omega)
  have hv : gotV l q (reW wide : Nat) big = reG l wide big q := by
   simp only [gotV, hg, if_true, Int.toNat_natCast, reG]
  refine (get_any A n c l _ q (reW wide : Nat) big w' h (by omega)).mono fun e w2 ⟨he, m, hw⟩ => ?_
  rw [hg, hv] at he
  exact ⟨he, by rw [hw]; exact Grow.of_drewN _ _⟩
 have hx1 := reG_lt l wide big (reW wide)
 have hx2 := reG_lt l wide big (2 * reW wide)
 rw [reOf_G]
 have h2 : 2 * reW wide ≤ n := by rw [hn]; cases adds <;> simp only [reSize, reN, if_true, Bool.false_eq_true, if_false] <;> omega
 have h3 : adds = true → 3 * reW wide ≤ n := by rintro rfl; rw [hn]; exact Nat.le_refl _
 have hw8 : reW wide ≤ 8 := by cases wide <;> decide
 have HW := hid (fun w => reW_any wide big w)
 have HBi := hid (fun w => reBits_any wide big w)
 have HSg := hid (fun v hv w => reSg_any wide big v hv w)
 generalize reG l wide big = G at HGet hx1 hx2 ⊢
 generalize reW wide = wd at HGet HW h2 h3 hw8 hx1 hx2 ⊢
 have H3 := hid h3
 clear hn hl h3
 have HG0 : Hid (∀ (w' : World), RB w' w.heap.size A n c l → Calls Try.prog 70 #[.slice A n c, .int .u64 0, .int .i64 (wd : Nat), .bool big] w' fun e w2 => e = .returned (.tuple #[.int .u64 (G 0 : Nat), .bool true]) ∧ Grow w' w2) :=
  hid fun w' h => HGet.out 0 w' h (by omega)
 have HG1 := hid fun w' h => HGet.out wd w' h (by omega)
 have HG2 := hid fun w' h (ha : adds = true) => HGet.out (2 * wd) w' h (by have := H3.out ha; omega)
 generalize G 0 = x0 at HG0 ⊢
 generalize G wd = x1 at HG1 hx1 ⊢
 generalize G (2 * wd) = x2 at HG2 hx2 ⊢
 obtain ⟨s, hs⟩ : ∃ s, s = x1 / reK wide := ⟨_, rfl⟩
 obtain ⟨t, ht⟩ : ∃ t, t = x1 % reK wide := ⟨_, rfl⟩
 rw [← hs, ← ht]
 have Hs := hid hs
 have Ht := hid ht
 have Hx1 := hid hx1
 clear hs ht hx1
 have HSg2 : Hid (adds = true → ∀ w, Calls Try.prog 93 #[.int .u64 x2, .agg #[.bool wide, .bool big]] w fun e w' => e = .returned (.int .i64 (if adds then sg wide x2 else 0)) ∧ Grow w w') :=
  hid (by rintro rfl; exact fun w => HSg.out x2 hx2 w)
 have HA0 : Hid (adds = false → (if adds then sg wide x2 else 0) = 0) := hid (by rintro rfl; rfl)
 generalize (if adds then sg wide x2 else 0) = ad at HSg2 HA0 ⊢
 have z1 : IntKind.u64.wrap (wd : Int) = (wd : Int) := by rw [IntKind.wrap_u64]; omega
 have z2 : IntKind.i64.wrap (2 * (wd : Int)) = ((2 * wd : Nat) : Int) := by rw [IntKind.wrap_i64]; omega
 have z3 : IntKind.u64.wrap (2 * (wd : Int)) = ((2 * wd : Nat) : Int) := by rw [IntKind.wrap_u64]; omega
 have Z2 := hid z2
 have Z3 := hid z3
 clear HGet H3 HSg h2 hw8 hx2 z2 z3
 go_enter Try.func85, Try.ntmps85
 go_wp2_with fail
 generalize hW : World.alloc _ _ = W0
 obtain ⟨bf, b4, hg0⟩ := blk2 hW
 have HBF0 := hid bf
 have HB40 := hid b4
 have HG0' := hid hg0
 clear hW bf b4 hg0
 refine (HW.out W0).mono ?_
 rintro e w1 ⟨rfl, hg1⟩
 have HBF1 := hid (HBF0.out.grow hg1)
 have HB41 := hid (HB40.out.grow hg1)
 have HGr1 : Hid (Grow w w1) := HG0'.out.trans hg1
 clear hg1 HBF0 HB40 HG0'
 obtain ⟨f0, f1⟩ := HBF1.out.c2
 go_wp2_with fail
 clear f0 f1
 refine (HG0.out _ (HR.out.belowAt HGr1.out (Nat.le_refl _))).mono ?_
 rintro e w2 ⟨rfl, hg2⟩
 have HBF2 := hid (HBF1.out.grow hg2)
 have HB42 := hid (HB41.out.grow hg2)
 have HGr2 : Hid (Grow w w2) := HGr1.out.trans hg2
 clear hg2 HBF1 HB41 HGr1 HG0
 obtain ⟨f0, f1⟩ := HBF2.out.c2
 go_wp2_with fail
 clear f0 f1 z1
 refine (HG1.out _ (HR.out.belowAt HGr2.out (Nat.le_refl _))).mono ?_
 rintro e w3 ⟨rfl, hg3⟩
 have HBF3 := hid (HBF2.out.grow hg3)
 have HB43 := hid (HB42.out.grow hg3)
 have HGr3 : Hid (Grow w w3) := HGr2.out.trans hg3
 clear hg3 HBF2 HB42 HGr2 HG1
 obtain ⟨f0, f1⟩ := HBF3.out.c2
 go_wp2_with fail
 clear f0 f1
 refine (HBi.out _).mono ?_
 rintro e w4 ⟨rfl, hg4⟩
 have HBF4 := hid (HBF3.out.grow hg4)
 have HB44 := hid (HB43.out.grow hg4)
 have HGr4 : Hid (Grow w w4) := HGr3.out.trans hg4
 clear hg4 HBF3 HB43 HGr3
 go_wp2_with fail
 have hsz5 : w.heap.size + 1 + 1 ≤ w4.heap.size := HB44.out.lt
 refine wp_region_leap (leap_below (w.heap.size + 1 + 1)) [(0, true), (1, true), (2, true), (3, true), (4, true), (5, true), (6, true), (7, true), (8, true), (9, true), (10, true), (11, true), (12, false), (13, false)] (by kernel_rfl) (by kernel_rfl) (by kernel_rfl) ?_
 have HBF5 := hid HBF4.out.drew
 have HB45 := hid HB44.out.drew
 have HGr5 : Hid (Grow w w4.drew) := HGr4.out.trans (Grow.of_drew _)
 have HSz5 : Hid (w.heap.size + 1 + 1 ≤ w4.drew.heap.size) := hsz5
 generalize w4.drew = w5 at HBF5 HB45 HGr5 HSz5 ⊢
 clear HBF4 HB44 HGr4 hsz5
 have hs := Hs.out
 have ht := Ht.out
 have hx1 := Hx1.out
 clear Hs Ht Hx1
 cases wide
 case' false =>
  rw [show ((byWide false 8 32 : Nat) : Int) = 8 from rfl]
  rw [show reK false = 256 from rfl] at hs ht
  rw [show reM false = 4294967296 from rfl] at hx1
  have y1 : IntKind.u32.wrap ((x1 : Int) / 256) = (s : Int) := by rw [IntKind.wrap_u32]; omega
  have y2 : IntKind.u64.wrap 256 = 256 := by rw [IntKind.wrap_u64]; rfl
  have y3 : IntKind.u64.wrap 255 = 255 := by rw [IntKind.wrap_u64]; rfl
  have y4 : bits BinOp.and IntKind.u64 (x1 : Int) 255 = (t : Int) := by
   have := bits_and_u64_nat x1 255 (by omega) (by omega)
   rw [show x1 &&& 255 = x1 % 256 from Nat.and_two_pow_sub_one_eq_mod x1 8, ← ht] at this
   exact this
  have y5 : IntKind.u32.wrap (t : Int) = (t : Int) := by rw [IntKind.wrap_u32]; omega
 case' true =>
  rw [show ((byWide true 8 32 : Nat) : Int) = 32 from rfl]
  rw [show reK true = 4294967296 from rfl] at hs ht
  rw [show reM true = 18446744073709551616 from rfl] at hx1
  have y1 : IntKind.u32.wrap ((x1 : Int) / 4294967296) = (s : Int) := by rw [IntKind.wrap_u32]; omega
  have y2 : IntKind.u64.wrap 4294967296 = 4294967296 := by rw [IntKind.wrap_u64]; rfl
  have y3 : IntKind.u64.wrap 4294967295 = 4294967295 := by rw [IntKind.wrap_u64]; rfl
  have y4 : bits BinOp.and IntKind.u64 (x1 : Int) 4294967295 = (t : Int) := by
   have := bits_and_u64_nat x1 4294967295 (by omega) (by omega)
   rw [show x1 &&& 4294967295 = x1 % 4294967296 from Nat.and_two_pow_sub_one_eq_mod x1 32, ← ht] at this
   exact this
  have y5 : IntKind.u32.wrap (t : Int) = (t : Int) := by rw [IntKind.wrap_u32]; omega
 all_goals
  clear hs ht hx1
  repeat (refine chain_take rfl (by rfl) ?_ (fun W hG => ?_) ?_; rotate_left; (go_simp; rfl); simp only [Act.put, List.setIfInBounds_toArray, List.set_cons_zero, List.set_cons_succ])
  clear y1 y2 y3 y4 y5
  refine chain_only rfl (by rfl) (fun K hK => ?_)
  go_simp
  refine hK _ _ (Below.alloc (Below.refl _ _) HSz5.out _) ?_
  clear hK K
  have HB6 := hid (HBF5.out.alloc (.cells #[.int .u64 0, .int .u32 0, .int .u32 0, .int .i64 0] 68))
  have HB46 := hid (HB45.out.alloc (.cells #[.int .u64 0, .int .u32 0, .int .u32 0, .int .i64 0] 68))
  have HR6 := hid (Blk.new w5 68 #[.int .u64 0, .int .u32 0, .int .u32 0, .int .i64 0])
  have HG6 : Hid (Grow w (w5.alloc (.cells #[.int .u64 0, .int .u32 0, .int .u32 0, .int .i64 0] 68))) := HGr5.out.trans (Grow.of_alloc _ _)
  generalize w5.alloc _ = w6 at HB6 HB46 HR6 HG6 ⊢
  generalize w5.heap.size = g8 at HR6 HSz5 ⊢
  clear HBF5 HB45 HGr5
  refine chain_only rfl (by rfl) (fun K hK => ?_)
  refine wp_store_row 68 (.tmp 13) (.tmp 49) rfl g8 #[.int .u64 (x0 : Int), .int .u32 (s : Int), .int .u32 (t : Int), .int .i64 0] rfl rfl _ _ HR6.out (by kernel_rfl) rfl (by simp [Value.oneCell']) ?_
  refine hK _ _ (Below.setRow' _ HSz5.out _) ?_
  clear hK K
  have HR7 := hid (HR6.out.set #[.int .u64 (x0 : Int), .int .u32 (s : Int), .int .u32 (t : Int), .int .i64 0])
  have HB7 := hid (HB6.out.other (show w.heap.size ≠ g8 by have := HSz5.out; omega) #[.int .u64 (x0 : Int), .int .u32 (s : Int), .int .u32 (t : Int), .int .i64 0])
  have HB47 := hid (HB46.out.other (show w.heap.size + 1 ≠ g8 by have := HSz5.out; omega) #[.int .u64 (x0 : Int), .int .u32 (s : Int), .int .u32 (t : Int), .int .i64 0])
  have HG7 : Hid (Grow w (w6.setRow g8 #[.int .u64 (x0 : Int), .int .u32 (s : Int), .int .u32 (t : Int), .int .i64 0])) := Grow.set HG6.out (by have := HSz5.out; omega) _
  generalize w6.setRow g8 _ = w7 at HR7 HB7 HB47 HG7 ⊢
  clear HR6 HB6 HB46 HG6
  refine chain_done ?_
  cases adds
  ·obtain rfl := HA0.out (by first | rfl | trivial)
   have HG8 : Hid (Grow w (w7.setRow (w.heap.size + 1) #[.int .u64 (x0 : Int), .int .u32 (s : Int), .int .u32 (t : Int), .int .i64 0])) := Grow.set HG7.out (Nat.le_succ _) _
   have HB48 := hid (HB47.out.set #[.int .u64 (x0 : Int), .int .u32 (s : Int), .int .u32 (t : Int), .int .i64 0])
   go_wp2_with (first | (refine wpList_load_row rfl 68 (.tmp 13) rfl g8 rfl _ #[.int .u64 (x0 : Int), .int .u32 (s : Int), .int .u32 (t : Int), .int .i64 0] (0, 0) _ HR7.out Try.underlying68 rfl (by kernel_rfl) ?_) | (refine wpList_store_row rfl 68 (.tmp 6) (.tmp 66) rfl (w.heap.size + 1) #[.int .u64 (x0 : Int), .int .u32 (s : Int), .int .u32 (t : Int), .int .i64 0] rfl rfl _ _ HB47.out (by kernel_rfl) rfl (by simp [Value.oneCell']) ?_))
   refine bodyPost_ret (results_cell_row (cs := #[.int .u64 (x0 : Int), .int .u32 (s : Int), .int .u32 (t : Int), .int .i64 0]) rfl _ _ (w.heap.size + 1) _ (0, 0) _ rfl HB48.out Try.underlying68 rfl (by kernel_rfl)) rfl ?_
   exact ⟨rfl, HG8.out⟩
  ·obtain ⟨f0, f1⟩ := HB7.out.c2
   have z2 := Z2.out
   have z3 := Z3.out
   go_wp2_with fail
   clear f0 f1 z2 z3
   refine (HG2.out _ (HR.out.belowAt HG7.out (Nat.le_refl _)) (by first | rfl | trivial)).mono ?_
   rintro e w8 ⟨rfl, hg8⟩
   have HR8 := hid (HR7.out.grow hg8)
   have HB8 := hid (HB7.out.grow hg8)
   have HB48 := hid (HB47.out.grow hg8)
   have HG8 : Hid (Grow w w8) := HG7.out.trans hg8
   clear hg8 HR7 HB7 HB47 HG7
   obtain ⟨f0, f1⟩ := HB8.out.c2
   go_wp2_with fail
   clear f0 f1
   refine (HSg2.out (by first | rfl | trivial) _).mono ?_
   rintro e w9 ⟨rfl, hg9⟩
   have HR9 := hid (HR8.out.grow hg9)
   have HB49 := hid (HB48.out.grow hg9)
   have HG9 : Hid (Grow w w9) := HG8.out.trans hg9
   clear hg9 HR8 HB8 HB48 HG8
   have y3 := HR9.out.at 3
   simp at y3
   have f3 := HR9.out.soft 3
   have hb := Joins.block_setCell (i := 3) HR9.out (.int .i64 ad)
   simp at hb
   have HR10 : Hid (Blk (w9.setCell ⟨g8, 3, none⟩ (.int .i64 ad)) g8 68 #[.int .u64 (x0 : Int), .int .u32 (s : Int), .int .u32 (t : Int), .int .i64 ad]) := hb
   have HB410 := hid (HB49.out.cellset (a := ⟨g8, 3, none⟩) (show w.heap.size + 1 ≠ g8 by have := HSz5.out; omega) (.int .i64 ad))
   have HG10 : Hid (Grow w (w9.setCell ⟨g8, 3, none⟩ (.int .i64 ad))) := Grow.cellset HG9.out (by have := HSz5.out; omega) _ _
   have HG11 : Hid (Grow w ((w9.setCell ⟨g8, 3, none⟩ (.int .i64 ad)).setRow (w.heap.size + 1) #[.int .u64 (x0 : Int), .int .u32 (s : Int), .int .u32 (t : Int), .int .i64 ad])) := Grow.set HG10.out (Nat.le_succ _) _
   have HB411 := hid (HB410.out.set #[.int .u64 (x0 : Int), .int .u32 (s : Int), .int .u32 (t : Int), .int .i64 ad])
   clear hb HSg2 HA0
   go_wp2_with (first | (refine wpList_load_row rfl 68 (.tmp 13) rfl g8 rfl _ #[.int .u64 (x0 : Int), .int .u32 (s : Int), .int .u32 (t : Int), .int .i64 ad] (0, 0) _ HR10.out Try.underlying68 rfl (by kernel_rfl) ?_) | (refine wpList_store_row rfl 68 (.tmp 6) (.tmp 66) rfl (w.heap.size + 1) #[.int .u64 (x0 : Int), .int .u32 (s : Int), .int .u32 (t : Int), .int .i64 ad] rfl rfl _ _ HB410.out (by kernel_rfl) rfl (by simp [Value.oneCell']) ?_))
   refine bodyPost_ret (results_cell_row (cs := #[.int .u64 (x0 : Int), .int .u32 (s : Int), .int .u32 (t : Int), .int .i64 ad]) rfl _ _ (w.heap.size + 1) _ (0, 0) _ rfl HB411.out Try.underlying68 rfl (by kernel_rfl)) rfl ?_
   exact ⟨rfl, HG11.out⟩
theorem arr4 {R : Array Value} (h : R.size = 4) : ∃ r0 r1 r2 r3, R = #[r0, r1, r2, r3] := by
 match R, h with
 | ⟨[r0, r1, r2, r3]⟩, _ => exact ⟨_, _, _, _, rfl⟩
theorem makeF (N : Nat) (h : N ≤ 100000) (w : World) : (Instr.makeSlice 63 (.int .i64 0) (.int .i64 (N : Int))).run Try.prog w = .ok (.slice (some ⟨w.heap.size, 0, none⟩) 0 N)
  (w.alloc (.cells (madeCells re0.C (N * 4)) 68)) := by
 have hinfo : (Try.prog.info? 68).map (fun i => (i.zero, i.size, i.bytes)) = some (some re0.V, 4, 24) := by kernel_rfl
 obtain ⟨i, hi, hz, hs, hby⟩ := info_parts hinfo
 have := run_make (P := Try.prog) w 63 68 i re0.V Try.underlying63 hi hz .i64 .i64 0 (N : Int) (Int.le_refl _) (by omega) (by rw [hby]; omega) (by omega)
 rw [hs, show re0.V.cells = re0.C from rfl] at this
 simpa using this
def EAllO (l : List UInt8) (wide adds big : Bool) (w : World) (e : Ending) (w' : World) : Prop :=
 (l.length % reSize wide adds = 0 ∧ ∃ A c, e = .returned (.tuple #[.slice A (l.length / reSize wide adds) c, .nilIface]) ∧ ZO w' w.heap.size 68 4 A (l.length / reSize wide adds) c ((rels l wide adds big).map Re.C) ∧ Grow w w') ∨
 (l.length % reSize wide adds ≠ 0 ∧ ∃ er, e = .returned (.tuple #[.slice none 0 0, er]) ∧ Err w' er 2 (l.length - l.length % reSize wide adds) ∧ Grow w w')
set_option maxHeartbeats 1000000 in
theorem eAllO_any (A : Option Addr) (n c : Nat) (l : List UInt8) (wide adds big : Bool) (w : World) (h : RB w w.heap.size A n c l) (h10 : l.length ≤ 100000) :
  Calls Try.prog 68 #[.slice A n c, .agg #[.bool wide, .bool big], .bool adds] w (EAllO l wide adds big w) := by
 have HR := hid h
 obtain rfl := h.len
 have hcp := h.cap
 have hmx := h.max
 unfold maxLen at hmx
 clear h
 have HSz := hid (fun w => reSize_any wide big adds w)
 have HRd : Hid (∀ (q : Nat) (B : Option Addr) (n c : Nat) (w : World), RB w w.heap.size B n c ((l.drop q).take (reSize wide adds)) → n = reSize wide adds → Calls Try.prog 85 #[.slice B n c, .agg #[.bool wide, .bool big], .bool adds] w fun e w' => e = .returned (reOf l q wide adds big).V ∧ Grow w w') :=
  hid (fun q B n c w h hn => by have := eRead_any B n c _ wide adds big w h hn; rwa [reOf_sub] at this)
 have hs24 := reSize_le wide adds
 have hs0 := reSize_pos wide adds
 have HTo : Hid (∀ k, relsTo l wide adds big (k + 1) = relsTo l wide adds big k ++ [reOf l (k * reSize wide adds) wide adds big]) := hid (relsTo_succ l wide adds big)
 have HSy : Hid (rels l wide adds big = relsTo l wide adds big (l.length / reSize wide adds)) := hid rfl
 unfold EAllO
 generalize rels l wide adds big = S at HSy ⊢
 generalize reSize wide adds = sz at HSz HRd hs24 hs0 HTo HSy ⊢
 obtain ⟨r, hr⟩ : ∃ r, r = l.length % sz := ⟨_, rfl⟩
 obtain ⟨m, hm⟩ : ∃ m, m = l.length / sz := ⟨_, rfl⟩
 have hdm : sz * m + r = l.length := by rw [hr, hm]; exact Nat.div_add_mod _ _
 have tm : ((l.length : Int)).tmod (sz : Int) = (r : Int) := by rw [hr]; exact (Int.ofNat_tmod _ _).symm
 have td : ((l.length : Int)).tdiv (sz : Int) = (m : Int) := by rw [hm]; exact (Int.ofNat_tdiv _ _).symm
 rw [← hr]
 rw [← hm] at HSy ⊢
 have HDM := hid hdm
 have hr1 : r ≤ l.length := by omega
 have hm1 : m ≤ l.length := by
  have : 1 * m ≤ sz * m := Nat.mul_le_mul_right m hs0
  omega
 clear hr hm hdm
 have s0 : ((sz : Int) == 0) = false := by simp; omega
 have s1 : ¬ (sz : Int) = -1 := by omega
 go_enter Try.func68, Try.ntmps68
 go_wp2_with fail
 generalize hW : World.alloc _ _ = W0
 obtain ⟨bf, hg0⟩ := blk1 hW
 clear hW
 refine (HSz.out W0).mono ?_
 rintro e w1 ⟨rfl, hg1⟩
 have HBF1 := hid (bf.grow hg1)
 have HG1 : Hid (Grow w w1) := hg0.trans hg1
 clear bf hg0 hg1
 rcases Nat.eq_zero_or_pos r with r0 | r0
 ·subst r0
  have hmk := makeF m (by omega) w1
  go_wp2_with fail
  have HO2 := hid (ZO.room w1 (w.heap.size + 1) 68 m 4 (madeCells re0.C (m * 4)) (by unfold maxLen; omega) (show w.heap.size + 1 ≤ w1.heap.size from HBF1.out.lt) (by simp [size_madeCells]))
  have HBF2 := hid (HBF1.out.alloc (.cells (madeCells re0.C (m * 4)) 68))
  have HG2 : Hid (Grow w (w1.alloc (.cells (madeCells re0.C (m * 4)) 68))) := HG1.out.trans (Grow.of_alloc _ _)
  generalize w1.alloc _ = w2 at HO2 HBF2 HG2 ⊢
  generalize w1.heap.size = g7 at HO2 ⊢
  clear hmk HG1 HBF1 HSz tm td s0 s1
  go_loopw [10, 11] (fun x i wr => ∃ (k q : Nat) (A2 : Option Addr) (c2 : Nat), k ≤ m ∧ q = k * sz ∧ i = .int .i64 q ∧ x = .slice A2 k c2 ∧ ZO wr (w.heap.size + 1) 68 4 A2 k c2 ((relsTo l wide adds big k).map Re.C) ∧
   Blk wr w.heap.size 23 #[.bool wide, .bool big] ∧ Grow w wr) (fun _ i _ => l.length - (intOf i).toNat)
  case atStart => exact ⟨0, 0, some ⟨g7, 0, none⟩, m, Nat.zero_le _, by omega, rfl, rfl, HO2.out, HBF2.out, HG2.out⟩
  case round =>
   obtain ⟨k, q, A2, c2, hk, hq, rfl, rfl, ho, hbf, hg⟩ := hrel
   have HO := hid ho
   have HBF := hid hbf
   have HG := hid hg
   have HQ := hid hq
   clear ho hbf hg HO2 HBF2 HG2
   by_cases hlt : k < m
   ·have hqs : q + sz ≤ l.length := by
     have e1 := HDM.out
     have : (k + 1) * sz ≤ m * sz := Nat.mul_le_mul_right sz hlt
     rw [Nat.succ_mul, Nat.mul_comm m sz, ← hq] at this
     omega
    clear hq
    obtain ⟨b, off, rfl, -, -⟩ := HR.out.pos (by omega)
    have HSub := hid (HR.out.sub (p := q) (m := sz) hqs hs0)
    have HS1 := hid (HTo.out k)
    rw [← HQ.out] at HS1
    have HRk := hid (HRd.out q)
    have HOne := hid (reOf l q wide adds big).one
    have HCs : Hid ((reOf l q wide adds big).C.size = 4) := rfl
    have HV : Hid ((reOf l q wide adds big).V = .agg (reOf l q wide adds big).C) := rfl
    generalize reOf l q wide adds big = s at HS1 HRk HOne HCs HV
    rw [HV.out] at HRk
    obtain ⟨R, hR⟩ : ∃ R, R = s.C := ⟨_, rfl⟩
    rw [← hR] at HRk HOne HCs
    have HRs := hid hR
    clear HV hR
    obtain ⟨r0, r1, r2, r3, rfl⟩ := arr4 HCs.out
    have z1 : (q : Int) < (l.length : Int) := by omega
    have z2 : (q : Int) ≤ (q : Int) + (sz : Int) := by omega
    have z3 : IntKind.i64.wrap ((q : Int) + (sz : Int)) = (q : Int) + (sz : Int) := by rw [IntKind.wrap_i64]; omega
    go_wp2_with fail
    refine wp_region_leap (leap_below (w.heap.size + 1)) [(0, true), (1, true), (2, true), (3, true), (4, true), (5, true), (6, true), (7, true), (8, true), (9, false), (10, false), (11, false), (12, true)] (by kernel_rfl) (by kernel_rfl) (by kernel_rfl) ?_
    have HX : Hid (∀ W, Below (w.heap.size + 1) wr.drew W → _ ∧ _) := fun W hW => ((HBF.out.drew).below hW (Nat.lt_succ_self _)).c2
    have HB1 : Hid (Blk wr.drew w.heap.size 23 #[.bool wide, .bool big]) := HBF.out.drew
    have HO1 : Hid (ZO wr.drew _ _ _ _ _ _ _) := HO.out
    have HG1 : Hid (Grow w wr.drew) := HG.out.trans (Grow.of_drew _)
    generalize wr.drew = w3 at HX HB1 HO1 HG1 ⊢
    clear HO HBF HG
    have i1 : (q : Int) + (sz : Int) ≤ (c : Int) := by omega
    have i2 : ¬ c = q := by omega
    have i3 : ((q : Int) + (sz : Int)).toNat = q + sz := by omega
    repeat (refine chain_take rfl (by rfl) ?_ (fun W hG => ?_) ?_; rotate_left; (obtain ⟨q1, q2⟩ := HX.out W hG; go_simp; rfl); simp only [Act.put, List.setIfInBounds_toArray, List.set_cons_zero, List.set_cons_succ])
    clear HX z1 z2 z3 i1 i2 i3
    refine chain_only rfl (by rfl) (fun K hK => ?_)
    go_simp
    refine (HRk.out (some ⟨b, off + q, none⟩) sz (c - q) _ ((HSub.out.belowAt HG1.out (Nat.le_refl _)).more HG1.out.size) rfl).mono ?_
    rintro e w4 ⟨rfl, hg4⟩
    refine hK _ _ (hg4.mono HB1.out.lt) ?_
    clear hK K
    have HB2 := hid (HB1.out.grow hg4)
    have HO2 := hid (HO1.out.keep hg4)
    have HG2 : Hid (Grow w w4) := HG1.out.trans hg4
    clear hg4 HB1 HO1 HG1
    refine chain_only rfl (by rfl) (fun K hK => ?_)
    go_simp
    refine hK _ _ (Below.alloc (Below.refl _ _) (show w.heap.size + 1 ≤ w4.heap.size from HB2.out.lt) _) ?_
    clear hK K
    have HBR := hid (Blk.new w4 68 #[r0, r1, r2, r3])
    have HB3 := hid (HB2.out.alloc (.cells #[r0, r1, r2, r3] 68))
    have HO3 := hid (HO2.out.keep (Grow.of_alloc w4 (.cells #[r0, r1, r2, r3] 68)))
    have HG3 : Hid (Grow w (w4.alloc (.cells #[r0, r1, r2, r3] 68))) := HG2.out.trans (Grow.of_alloc _ _)
    generalize w4.alloc _ = w5 at HBR HB3 HO3 HG3 ⊢
    generalize w4.heap.size = g at HBR ⊢
    clear HB2 HO2 HG2
    refine chain_only rfl (by rfl) (fun K hK => ?_)
    refine wp_appendZ w5 (.tmp 40) (.tmp 50) 63 rfl (w.heap.size + 1) 68 re0.V 4 24 Try.underlying63 (by kernel_rfl) rfl (by omega) A2 k c2 _ rfl HO3.out g _ #[r0, r1, r2, r3] rfl HBR.out rfl HOne.out (by unfold maxLen; omega) (by omega) HB3.out.lt ?_
    intro A5 c5 w6 ho5 hg5 _
    have hb5 : Below (w.heap.size + 1) w5 w6 := (Below.refl _ _).grown hg5 HB3.out.lt (fun j hj => HO3.out.ge hj)
    refine hK _ _ hb5 ?_
    clear hK K
    have HB6 := hid (HB3.out.below hb5 (Nat.lt_succ_self _))
    have HG6 : Hid (Grow w w6) := HG3.out.trans' (hb5.mono (Nat.le_succ _))
    have HO6 : Hid (ZO w6 (w.heap.size + 1) 68 4 A5 (k + 1) c5 ((relsTo l wide adds big (k + 1)).map Re.C)) := by
     rw [HS1.out, List.map_append, List.map_cons, List.map_nil, ← HRs.out]; exact ho5
    clear ho5 hg5 hb5 HBR HB3 HO3 HG3
    repeat (refine chain_take rfl (by rfl) ?_ (fun W hG => ?_) ?_; rotate_left; (go_simp; rfl); simp only [Act.put, List.setIfInBounds_toArray, List.set_cons_zero, List.set_cons_succ])
    refine chain_done ?_
    have z4 : IntKind.i64.wrap ((q : Int) + (sz : Int)) = ((q + sz : Nat) : Int) := by rw [IntKind.wrap_i64]; omega
    go_wp2
    go_roundw
    case rel => exact ⟨k + 1, q + sz, A5, c5, by omega, by rw [HQ.out, Nat.succ_mul], rfl, rfl, HO6.out, HB6.out, HG6.out⟩
    case measure => simp [intOf]; omega
   ·have z1 : ¬ (q : Int) < (l.length : Int) := by
     obtain rfl : k = m := by omega
     have e1 := HDM.out
     rw [Nat.mul_comm k sz] at hq
     omega
    obtain rfl : k = m := by omega
    clear hq
    go_wp2
    go_ret2
    exact ⟨A2, c2, rfl, by rw [HSy.out]; exact HO.out.mono (Nat.le_succ _), HG.out⟩
 ·have r1 : ((r : Int) != 0) = true := by simp; omega
  have z3 : IntKind.i64.wrap ((l.length : Int) - (r : Int)) = ((l.length - r : Nat) : Int) := by rw [IntKind.wrap_i64]; omega
  have HG2 : Hid (Grow w (w1.alloc (.cells #[.int .i64 ((l.length - r : Nat) : Int), .int .i64 2] 131))) := HG1.out.trans (Grow.of_alloc _ _)
  have HE : Hid (Err (w1.alloc (.cells #[.int .i64 ((l.length - r : Nat) : Int), .int .i64 2] 131)) (.iface 129 (.pointer (some ⟨w1.heap.size, 0, none⟩))) 2 (l.length - r)) := Err.box w1 2 (l.length - r) _ (by omega)
  have HR0 : Hid (r ≠ 0) := hid (by omega)
  go_wp2
  go_ret2
  exact .inr ⟨HR0.out, _, rfl, HE.out, HG2.out⟩
end Go.Proofs.Ytfpihkbpelbcbaa
