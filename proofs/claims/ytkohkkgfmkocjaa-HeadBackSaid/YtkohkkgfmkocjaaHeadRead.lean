/-
  The contract of head.read: the numbers of a header's bytes, and where each stands.
-/
import Derived.Test.YtkohkkgfmkocjaaHeadNum
import Derived.Test.YtkohkkgfmkocjaaWireGet
namespace Go.Proofs.Ytkohkkgfmkocjaa
open Go.RowKit

theorem nums_at (l : List UInt8) (big : Bool) : ∀ (ns : List Nat) (p k : Nat) (h : k < ns.length), (nums l big p ns)[k]? = some (getB ((l.drop (p + sumN (ns.take k))).take ns[k]) big)
  | [], _, _, h => absurd h (by simp)
  | n :: r, p, 0, _ => by simp [nums, sumN]
  | n :: r, p, k + 1, h => by
    have := nums_at l big r (p + n) k (by simpa using h)
    simp only [nums, List.getElem?_cons_succ, this, List.take_succ_cons, sumN, List.getElem_cons_succ, Nat.add_assoc]

/-- Where each number stands. -/
def hPl (wide : Bool) : List Nat := (List.range 13).map fun k => 16 + sumN ((hRow wide).take k)
theorem hPl_at (wide : Bool) (k : Nat) (h : k < 13) : (hPl wide)[k]? = some (16 + sumN ((hRow wide).take k)) := by simp [hPl, h]
theorem sum_hRow (wide : Bool) : 16 + sumN (hRow wide) = hSize wide := by cases wide <;> rfl
theorem len_hRow (wide : Bool) : (hRow wide).length = 13 := rfl
theorem wid_hRow (wide : Bool) (k : Nat) (h : k < (hRow wide).length) : wid ((hRow wide)[k] : Nat) = true := by
  have hw : wid (byWide wide 4 8 : Nat) = true := by cases wide <;> rfl
  match k, h with
  | 0, _ => rfl
  | 1, _ => rfl
  | 2, _ => rfl
  | 3, _ => exact hw
  | 4, _ => exact hw
  | 5, _ => exact hw
  | 6, _ => rfl
  | 7, _ => rfl
  | 8, _ => rfl
  | 9, _ => rfl
  | 10, _ => rfl
  | 11, _ => rfl
  | 12, _ => rfl

/-- The first k of them are laid. -/
def laidTo (kd : IntKind) (l : List Nat) (k j : Nat) : Value := .int kd (if j < k then l.getD j 0 else 0 : Nat)
theorem laidTo_succ {kd : IntKind} {l : List Nat} {k v : Nat} (hv : l[k]? = some v) (j : Nat) : (if j = k then Value.int kd (v : Int) else laidTo kd l k j) = laidTo kd l (k + 1) j := by
  by_cases e : j = k
  · subst e
    simp [laidTo, hv]
  · rw [if_neg e]
    by_cases e2 : j < k
    · simp only [laidTo, if_pos e2, if_pos (show j < k + 1 by omega)]
    · simp only [laidTo, if_neg e2, if_neg (show ¬ j < k + 1 by omega)]
theorem blk_of_rowIs {w : World} {g : Nat} {t : TypeId} {kd : IntKind} {l : List Nat} {n : Nat} (h : w.rowIs g t n (laidTo kd l n)) (hl : l.length = n) : Blk w g t ((l.map fun x : Nat => Value.int kd (x : Int)).toArray) := by
  obtain ⟨c, hb, hn, hc⟩ := h
  have e : c = (l.map fun x : Nat => Value.int kd (x : Int)).toArray := by
    apply Array.ext_getElem?
    intro i
    by_cases hi : i < n
    · rw [hc i hi]
      simp [laidTo, hi, show i < l.length by omega]
    · rw [Array.getElem?_eq_none (by omega), Array.getElem?_eq_none (by simp; omega)]
  rw [Blk, hb, e]

theorem results_cell2 {fn : Func} {p q : Tmp} {ty ty' : TypeId} (h : fn.results = #[.cell p ty, .cell q ty']) (tmps : Array Value) {P : Program} (w : World) (g g' : Nat) (u v : Value)
    (hp : tmps.getD p undef = .pointer (some ⟨g, 0, none⟩)) (hq : tmps.getD q undef = .pointer (some ⟨g', 0, none⟩)) (hu : (loadVar ty ⟨g, 0, none⟩).run P w = .ok u w) (hv : (loadVar ty' ⟨g', 0, none⟩).run P w = .ok v w) :
    (results fn tmps).run P w = .ok (.tuple #[u, v]) w := by
  have hp' : tmps[p]?.getD undef = .pointer (some ⟨g, 0, none⟩) := by simpa using hp
  have hq' : tmps[q]?.getD undef = .pointer (some ⟨g', 0, none⟩) := by simpa using hq
  simp [results, h, hp', hq', asAddr, hu, hv]

theorem leap_eq : Leap (fun w W : World => W = w) := ⟨fun _ => rfl, fun _ _ _ h k => k.trans h⟩

set_option maxHeartbeats 400000 in
theorem hRead_any (A : Option Addr) (len c : Nat) (l : List UInt8) (wide big : Bool) (w : World) (h : RB w w.heap.size A len c l) (hlen : hSize wide ≤ l.length) :
    Calls Try.prog 24 #[.slice A len c, .agg #[.bool wide, .bool big]] w fun e w' =>
      e = .returned (.tuple #[.agg (u64s (nums l big 16 (hRow wide))), .agg (i64s (hPl wide))]) ∧ Grow w w' := by
  have HWi := Lib.hid (fun w => widths_any wide big w)
  have HR := Lib.hid h
  have HLEN := Lib.hid hlen
  have HWW := Lib.hid (wid_hRow wide)
  have HNA := Lib.hid (nums_at l big (hRow wide) 16)
  have HPA := Lib.hid (hPl_at wide)
  have HLN : Hid ((nums l big 16 (hRow wide)).length = 13) := Lib.hid (length_nums _ _ _ _)
  have HLP : Hid ((hPl wide).length = 13) := Lib.hid (by simp [hPl])
  have HSL := Lib.hid (sum_hRow wide)
  have HAW : Hid (∀ k (h : k < (hRow wide).length), (i64s (hRow wide))[k]? = some (.int .i64 ((hRow wide)[k] : Int))) := Lib.hid (fun k h => by simp [i64s, h])
  generalize i64s (hRow wide) = RW at HWi HAW
  have HRL : Hid ((hRow wide).length = 13) := Lib.hid rfl
  have HMX := Lib.hid h.max
  have HLen := Lib.hid h.len
  have hcp := h.cap
  have hmx := h.max
  unfold maxLen at hmx
  generalize nums l big 16 (hRow wide) = vs at HNA HLN ⊢
  generalize hPl wide = ps at HPA HLP ⊢
  generalize hRow wide = ns at HWW HNA HPA HSL HAW HRL
  clear h hlen
  go_enter Try.func24, Try.ntmps24
  go_wp2_with fail
  generalize hW : World.alloc _ _ = W0
  obtain ⟨bf, bv, bp, hg0⟩ := blk3 hW
  clear hW
  refine (HWi.out _).mono ?_
  rintro e w1 ⟨rfl, hg1⟩
  have HBF := Lib.hid (bf.grow hg1)
  have HV := Lib.hid ((bv.grow hg1).row (f := laidTo .u64 vs 0) (fun i hi => by
    rw [show (#[.int .u64 0, .int .u64 0, .int .u64 0, .int .u64 0, .int .u64 0, .int .u64 0, .int .u64 0, .int .u64 0, .int .u64 0, .int .u64 0, .int .u64 0, .int .u64 0, .int .u64 0] : Array Value) = Array.replicate 13 (.int .u64 0) from rfl]
    have hi' : i < 13 := hi
    simp [laidTo, hi']))
  have HP := Lib.hid ((bp.grow hg1).row (f := laidTo .i64 ps 0) (fun i hi => by
    rw [show (#[.int .i64 0, .int .i64 0, .int .i64 0, .int .i64 0, .int .i64 0, .int .i64 0, .int .i64 0, .int .i64 0, .int .i64 0, .int .i64 0, .int .i64 0, .int .i64 0, .int .i64 0] : Array Value) = Array.replicate 13 (.int .i64 0) from rfl]
    have hi' : i < 13 := hi
    simp [laidTo, hi']))
  have HG1 : Hid (Grow w w1) := hg0.trans hg1
  have HS0 : Hid (w.heap.size ≤ w.heap.size) := Nat.le_refl _
  clear bf bv bp hg0 hg1
  generalize hS : w.heap.size = S at HBF HV HP HS0 ⊢
  have HS := Lib.hid hS
  clear hS
  go_wp2_with fail
  go_loopw [6, 11] (fun x i wr => ∃ (k at' : Nat), k ≤ 13 ∧ i = .int .i64 k ∧ x = .int .i64 at' ∧ at' = 16 + sumN (ns.take k) ∧ wr.rowIs (S + 1) 53 13 (laidTo .u64 vs k) ∧ wr.rowIs (S + 1 + 1) 55 13 (laidTo .i64 ps k) ∧
    Blk wr S 23 #[.bool wide, .bool big] ∧ Grow w wr) (fun _ i _ => 13 - (intOf i).toNat)
  case atStart => exact ⟨0, 16, by omega, rfl, rfl, rfl, HV.out, HP.out, HBF.out, HG1.out⟩
  case round =>
    obtain ⟨k, at', hk, rfl, rfl, ha, hv, hp, hbf, hg⟩ := hrel
    by_cases hlt : k < 13
    · have hkn : k < ns.length := by rw [HRL.out]; exact hlt
      have HA := Lib.hid ha
      have HV1 := Lib.hid hv
      have HP1 := Lib.hid hp
      have HBF1 := Lib.hid hbf
      have HG := Lib.hid hg
      have HNk := Lib.hid (HNA.out k hkn)
      have HPk := Lib.hid (HPA.out k hlt)
      have HWk := Lib.hid (HWW.out k hkn)
      have HAk := Lib.hid (HAW.out k hkn)
      have HU := Lib.hid (sumN_succ ns k hkn)
      have hle : at' + ns[k] ≤ len := by
        have e1 := sumN_le ns (k + 1)
        rw [sumN_succ ns k hkn] at e1
        have e2 := HSL.out
        have e3 := HLEN.out
        have e4 := HLen.out
        omega
      rw [← ha] at HNk HPk
      have hw8 : ns[k] ≤ 8 := by have := wid_cases HWk.out; omega
      generalize ns[k] = m at HNk HWk HAk HU hle hw8
      have z1 : IntKind.u64.wrap (at' : Int) = (at' : Int) := by rw [IntKind.wrap_u64]; omega
      obtain ⟨q1, q2⟩ := hbf.c2
      have HRr : Hid (RB wr w.heap.size A len c l) := HR.out.belowAt hg (Nat.le_refl _)
      clear ha hv hp hbf hkn hg
      go_wp2_with (refine wpList_index rfl 55 3 (.tmp 10) (.tmp 11) rfl 13 _ Try.underlying55 Try.underlying3 rfl (by kernel_rfl) RW k (.int .i64 (m : Int)) rfl rfl hlt HAk.out ?_)
      refine (get_any A len c l _ at' m big _ HRr.out (by omega)).mono ?_
      rintro e w2 ⟨rfl, j, hw2⟩
      have hgb : gotB l at' m = true := by
        simp only [gotB, HWk.out, Bool.true_and, wthn]
        exact decide_eq_true (by have := HLen.out; omega)
      have hgv : gotV l at' m big = getB ((l.drop at').take m) big := by
        simp only [gotV, hgb, if_true, Int.toNat_natCast]
      rw [hgb, hgv]
      generalize getB ((l.drop at').take m) big = v at HNk ⊢
      have HV2 : Hid (w2.rowIs (S + 1) 53 13 (laidTo .u64 vs k)) := by rw [hw2]; exact HV1.out
      have HP2 : Hid (w2.rowIs (S + 1 + 1) 55 13 (laidTo .i64 ps k)) := by rw [hw2]; exact HP1.out
      have HBF2 : Hid (Blk w2 S 23 #[.bool wide, .bool big]) := by rw [hw2]; exact HBF1.out
      have HG2 : Hid (Grow w w2) := by rw [hw2]; exact HG.out.trans (Grow.of_drewN _ _)
      have c1 := HV2.out.cell hlt
      have f1 := HV2.out.frozen k
      have HV3 := Lib.hid (HV2.out.set k (.int .u64 (v : Int)))
      have HP3 := Lib.hid (HP2.out.setOther (a := ⟨S + 1, k, none⟩) (show S + 1 + 1 ≠ S + 1 by omega) (.int .u64 (v : Int)))
      have HP4 := Lib.hid (HP3.out.set k (.int .i64 (at' : Int)))
      have HV4 := Lib.hid (HV3.out.setOther (a := ⟨S + 1 + 1, k, none⟩) (show S + 1 ≠ S + 1 + 1 by omega) (.int .i64 (at' : Int)))
      have c2 := HP3.out.cell hlt
      have f2 := HP3.out.frozen k
      clear z1 q1 q2 hgb hgv hw2 HV1 HP1 HBF1 HG HRr
      have z1 : (0 : Int) ≤ (k : Int) := by omega
      have z2 : (k : Int) < 13 := by omega
      go_wp2_with fail
      go_roundw
      case rel => exact ⟨k + 1, at' + m, by omega, by go_num, by go_num, by rw [HU.out, HA.out]; omega, HV4.out.congr fun j _ => laidTo_succ HNk.out j, HP4.out.congr fun j _ => laidTo_succ HPk.out j,
        (HBF2.out.cellset (show S ≠ S + 1 by omega) _).cellset (show S ≠ S + 1 + 1 by omega) _, Grow.cellset (Grow.cellset HG2.out (by have := HS.out; omega) _ _) (by have := HS.out; omega) _ _⟩
      case measure => simp [intOf]; omega
    · have e : k = 13 := by omega
      rw [e] at hv hp
      have HV1 := Lib.hid (blk_of_rowIs hv HLN.out)
      have HP1 := Lib.hid (blk_of_rowIs hp HLP.out)
      have HG := Lib.hid hg
      have HS1 : Hid ((u64s vs).size = 13) := Lib.hid (by simp [u64s, HLN.out])
      have HS2 : Hid ((i64s ps).size = 13) := Lib.hid (by simp [i64s, HLP.out])
      have HO1 := Lib.hid (one_u64s vs)
      have HO2 := Lib.hid (one_i64s ps)
      have HV2 : Hid (Blk wr (S + 1) 53 (u64s vs)) := HV1.out
      have HP2 : Hid (Blk wr (S + 1 + 1) 55 (i64s ps)) := HP1.out
      generalize hRv : u64s vs = Rv at HV2 HS1 HO1 ⊢
      generalize hRp : i64s ps = Rp at HP2 HS2 HO2 ⊢
      have HRv := Lib.hid hRv
      have HRp := Lib.hid hRp
      clear hRv hRp hv hp hbf hg HV1 HP1 ha
      go_wp2_with fail
      refine wp_region_leap leap_eq [(0, true), (1, true), (2, false), (3, false)] (by kernel_rfl) (by kernel_rfl) (by kernel_rfl) ?_
      have HG3 : Hid (Grow w wr.drew) := HG.out.trans (Grow.of_drew _)
      have HV3 : Hid (Blk wr.drew (S + 1) 53 Rv) := HV2.out
      have HP3 : Hid (Blk wr.drew (S + 1 + 1) 55 Rp) := HP2.out
      generalize wr.drew = w3 at HG3 HV3 HP3 ⊢
      clear HV2 HP2 HG
      refine chain_take rfl (by rfl) (.agg Rv) (fun W hW => ?_) ?_
      · subst hW; exact HV3.out.exec 53 (.tmp 4) rfl rfl _ Try.underlying53 rfl (by rw [HS1.out]; kernel_rfl)
      refine chain_take rfl (by rfl) (.agg Rp) (fun W hW => ?_) ?_
      · subst hW; exact HP3.out.exec 55 (.tmp 5) rfl rfl _ Try.underlying55 rfl (by rw [HS2.out]; kernel_rfl)
      simp only [Act.put, List.setIfInBounds_toArray, List.set_cons_zero, List.set_cons_succ]
      refine chain_only rfl (by rfl) (fun K hK => ?_)
      refine wp_store_row 53 (.tmp 4) (.tmp 34) rfl (S + 1) Rv rfl rfl _ _ HV3.out (by rw [HS1.out]; kernel_rfl) rfl HO1.out ?_
      refine hK _ _ HV3.out.same ?_
      clear hK K
      rw [HV3.out.same]
      refine chain_only rfl (by rfl) (fun K hK => ?_)
      refine wp_store_row 55 (.tmp 5) (.tmp 35) rfl (S + 1 + 1) Rp rfl rfl _ _ HP3.out (by rw [HS2.out]; kernel_rfl) rfl HO2.out ?_
      refine hK _ _ HP3.out.same ?_
      clear hK K
      rw [HP3.out.same]
      refine chain_done ?_
      go_wp2
      refine bodyPost_ret (results_cell2 rfl _ _ (S + 1) (S + 1 + 1) (.agg Rv) (.agg Rp) rfl rfl (HV3.out.var _ _ Try.underlying53 rfl (by rw [HS1.out]; kernel_rfl)) (HP3.out.var _ _ Try.underlying55 rfl (by rw [HS2.out]; kernel_rfl))) rfl ?_
      exact ⟨by rw [HRv.out, HRp.out], HG3.out⟩
end Go.Proofs.Ytkohkkgfmkocjaa
