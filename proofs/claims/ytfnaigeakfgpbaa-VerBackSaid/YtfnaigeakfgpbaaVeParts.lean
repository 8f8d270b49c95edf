/-
  The contract of ver.parts: where the parts of one begin, or what is wrong with them, and where.
-/
import Derived.Test.YtfnaigeakfgpbaaVeWell
import Derived.Test.YtfnaigeakfgpbaaScope
import Derived.Test.YtfnaigeakfgpbaaNums
import Derived.Test.YtfnaigeakfgpbaaZs
import Derived.WalkMore
namespace Go.Proofs.Ytfnaigeakfgpbaa
open Go.RowKit

/-- What parts answers: places, or an error. -/
def VPt (S : List Nat × Nat × Nat) (w : World) (e : Ending) (w' : World) : Prop :=
  (S.2.1 = 0 ∧ ∃ A2 c2, e = .returned (.tuple #[.slice A2 S.1.length c2, .nilIface]) ∧ NS w' w'.heap.size .u64 A2 S.1.length c2 S.1 ∧ Grow w w') ∨
  (S.2.1 ≠ 0 ∧ ∃ v, e = .returned (.tuple #[.slice none 0 0, v]) ∧ Err w' v S.2.1 S.2.2 ∧ Grow w w')

def vLen : Value → Nat
  | .slice _ n _ => n
  | _ => 0

/-- The frame at the label. -/
def PtJ (w : World) (A : Option Addr) (n c : Nat) (big : Bool) (S z cp count : Nat) (G : Nat → Nat → Nat) (R : List Nat × Nat × Nat) (a : Act) (wr : World) : Prop :=
  ∃ (p c' : Nat) (T : List Nat) (m : Nat) (A2 : Option Addr) (c2 : Nat) (U : List Value),
    a = ⟨([.agg #[.slice A n c, .bool big], .int .u64 (p : Int), .agg #[.int .u64 (S : Int), .int .u64 (z : Int), .int .u64 (cp : Int)], .pointer (some ⟨w.heap.size, 0, none⟩), undef, .pointer (some ⟨w.heap.size + 1, 0, none⟩), .slice none 0 0, .nilIface, .int .u64 (count : Int), .slice A2 m c2] ++ U).toArray, []⟩ ∧ U.length = 50 ∧ m = T.length ∧
    0 < c' ∧ m + c' = count ∧ p < 18446744073709551616 ∧ R = (T ++ (vtParts G n z c' p).1, (vtParts G n z c' p).2) ∧
    ON wr (w.heap.size + 2) 62 .u64 A2 m c2 T ∧ Blk wr w.heap.size 70 #[.slice A n c, .bool big] ∧ Blk wr (w.heap.size + 1) 73 #[.int .u64 (S : Int), .int .u64 (z : Int), .int .u64 (cp : Int)] ∧ Grow w wr

set_option maxRecDepth 100000 in
set_option maxHeartbeats 2000000 in
theorem vparts_any (K : VK) (A : Option Addr) (n c : Nat) (l : List UInt8) (a : Nat) (big : Bool) (w : World) (h : RB w w.heap.size A n c l) (hK : K.Is) (hq : a + K.S ≤ n) (h0 : 0 < vG l big (a + K.cp) 2) :
    Calls Try.prog 37 #[.agg #[.slice A n c, .bool big], .int .u64 a, shV K] w (VPt (vtOne K (vG l big) n a) w) := by
  obtain ⟨hz8, hz16, hS, -, hcp, -, -⟩ := K_small hK
  have hmx := h.max
  have hcap := h.cap
  unfold maxLen at hmx
  have hn48 : n ≤ 9223372036854775807 := by omega
  have HRB : ∀ w', Grow w w' → RB w' w'.heap.size A n c l := fun w' hg => (h.belowAt hg (Nat.le_refl _)).more hg.size
  have HC := Lib.hid fun w' (hg : Grow w w') => vcount_any A n c l a K.S K.z K.cp big w' (HRB w' hg) (by omega)
  have HF := Lib.hid fun w' (hg : Grow w w') => vfirst_any A n c l a K.S K.z K.cp big w' (HRB w' hg) (by omega) hq
  have HHas := Lib.hid fun p w' (hg : Grow w w') => vhas_any A n c l p K.z big w' (HRB w' hg)
  have HNext := Lib.hid fun p w' (hg : Grow w w') (hp : p + K.z ≤ n) => vnext_any A n c l p K.z big w' (HRB w' hg) (by omega) hp
  have HSpot := Lib.hid fun p code w' (hp : p < 18446744073709551616) (hc : 0 < code) => vspot_any A n c p code big w' (Nat.le_trans hcap h.max) hp hc
  have HG4 := Lib.hid fun q => vG_lt4 l big q
  have HG2 := vG_lt2 l big (a + K.cp)
  have hf4 := HG4.out (a + (K.S - 8))
  unfold vtOne shV
  generalize vG l big = G at *
  generalize hcnt : G (a + K.cp) 2 = count at *
  generalize G (a + (K.S - 8)) 4 = fst at *
  generalize K.S = S at *
  generalize K.cp = cp at *
  generalize K.z = z at *
  have ha : a ≤ 9223372036854775807 := by omega
  obtain ⟨p0, hp0⟩ : ∃ p0, p0 = a + fst := ⟨_, rfl⟩
  have zA : IntKind.u64.wrap ((a : Int) + (fst : Int)) = (p0 : Int) := by rw [IntKind.wrap_u64]; omega
  have hp64 : p0 < 18446744073709551616 := by omega
  rw [← hp0]
  obtain ⟨R, hR⟩ : ∃ R, vtParts G n z count p0 = R := ⟨_, rfl⟩
  have HRe := Lib.hid hR
  rw [hR]
  clear hR hcnt hq hS hcp HRB h hK hmx hcap hp0 hf4 ha
  go_enter Try.func37, Try.ntmps37
  go_wp2
  refine wp_scope_loop 0 (PtJ w A n c big S z cp count G R) (fun a _ => count - vLen (a.tmps.getD 9 undef)) rfl ?pass ?first
  case first =>
    intro hp
    have HP := Lib.hid hp
    clear hp HHas HNext HSpot HG4
    go_wp2_with fail
    generalize hW : World.alloc _ _ = W0
    obtain ⟨bf, b4, hg0⟩ := blk2 hW
    have HBF0 := Lib.hid bf
    have HB40 := Lib.hid b4
    have HG0 := Lib.hid hg0
    clear hW bf b4 hg0
    refine (HC.out _ HG0.out).mono ?_
    rintro e w1 ⟨rfl, hg1⟩
    have HBF1 := Lib.hid (HBF0.out.grow hg1)
    have HB41 := Lib.hid (HB40.out.grow hg1)
    have HG1 : Hid (Grow w w1) := HG0.out.trans hg1
    clear hg1 HBF0 HB40 HG0 HC
    obtain ⟨y0, y1⟩ := HBF1.out.c2
    obtain ⟨y2, y3, y4⟩ := HB41.out.c3
    go_wp2_with fail
    clear y0 y1 y2 y3 y4
    refine (HF.out _ HG1.out).mono ?_
    rintro e w2 ⟨rfl, hg2⟩
    have HBF2 := Lib.hid (HBF1.out.grow hg2)
    have HB42 := Lib.hid (HB41.out.grow hg2)
    have HG2 : Hid (Grow w w2) := HG1.out.trans hg2
    clear hg2 HBF1 HB41 HG1 HF
    go_wp2_with fail
    rename_i K hK
    go_step3
    refine hK _ _ (HP.out _ _ ⟨p0, count, [], 0, none, 0, _, rfl, rfl, rfl, h0, by simp, hp64, ?_, ON.nil, HBF2.out, HB42.out, HG2.out⟩)
    rw [HRe.out]; rfl
  case pass =>
    clear HC HF HRe hp64 zA p0 fst
    rintro a' wr ⟨p, c', T, m, A2, c2, U, rfl, hU, hm, hc0, hTc, hp, hRe, ho, hbf, hb4, hg⟩
    obtain ⟨d, rfl⟩ : ∃ d, c' = d + 1 := ⟨c' - 1, by omega⟩
    obtain ⟨x0, x1, x2, x3, x4, x5, x6, x7, x8, x9, x10, x11, x12, x13, x14, x15, x16, x17, x18, x19, x20, x21, x22, x23, x24, x25, x26, x27, x28, x29, x30, x31, x32, x33, x34, x35, x36, x37, x38, x39, x40, x41, x42, x43, x44, x45, x46, x47, x48, x49, rfl⟩ := list50 hU
    simp only [List.cons_append, List.nil_append]
    have HU := Lib.hid hU
    clear hU
    rw [vtParts] at hRe
    have HM := Lib.hid hm
    clear hm
    have HRe := Lib.hid hRe
    have HO := Lib.hid ho
    have HBF := Lib.hid hbf
    have HB4 := Lib.hid hb4
    have HG := Lib.hid hg
    clear hRe ho hbf hb4 hg
    obtain ⟨y0, y1⟩ := HBF.out.c2
    obtain ⟨y2, y3, y4⟩ := HB4.out.c3
    go_wp2_with fail
    clear y0 y1 y2 y3 y4
    refine (HHas.out p _ HG.out).mono ?_
    rintro e w1 ⟨rfl, hg1⟩
    have HO1 := Lib.hid (HO.out.keep hg1)
    have HBF1 := Lib.hid (HBF.out.grow hg1)
    have HB41 := Lib.hid (HB4.out.grow hg1)
    have HG1 : Hid (Grow w w1) := HG.out.trans hg1
    clear hg1 HBF HB4 HG HO HHas
    obtain ⟨y0, y1⟩ := HBF1.out.c2
    obtain ⟨y2, y3, y4⟩ := HB41.out.c3
    by_cases hin : p + z ≤ n
    · have d1 : decide (p + z ≤ n) = true := decide_eq_true hin
      rw [d1]
      have HHe : Hid (w.heap.size + 2 ≤ w1.heap.size) := Lib.hid (show w.heap.size + 2 ≤ w1.heap.size by have := HB41.out.lt; omega)
      go_wp2_with (at_builtin; refine wpList_append1 _ rfl (.tmp 30) (.tmp 32) 65 rfl (w.heap.size + 2) 62 .u64 8 Try.underlying65 (by kernel_rfl) A2 m c2 _ rfl (HO1.out.keep (Grow.of_alloc _ _)) w1.heap.size _ p rfl (Blk.new _ _ _) (by unfold maxLen; omega) (by omega) (by have := HHe.out; simp; omega) ?_; intro A3 c3 w3 ho3 hb3; refine Hid.out ?_)
      have HO3 := Lib.hid ho3
      have hA : Below (w.heap.size + 2) w1 (w1.alloc (.cells #[.int .u64 (p : Int)] 62)) := Below.alloc (Below.refl _ _) HHe.out _
      have hb13 := hA.trans hb3
      have HBF3 := Lib.hid (HBF1.out.below hb13 (by omega))
      have HB43 := Lib.hid (HB41.out.below hb13 (by omega))
      have HG3 : Hid (Grow w w3) := HG1.out.trans' (hb13.mono (by omega))
      clear ho3 hA hb13 hb3 HHe HO1 HBF1 HB41 HG1 y0 y1 y2 y3 y4
      have HL4 := HG4.out (p + (z - 4))
      have HN := Lib.hid fun w' hg => HNext.out p w' hg hin
      clear HNext HG4
      generalize G (p + (z - 4)) 4 = o at HN HL4 HRe
      rw [if_neg (by omega)] at HRe
      obtain ⟨y0, y1⟩ := HBF3.out.c2
      obtain ⟨y2, y3, y4⟩ := HB43.out.c3
      refine Lib.hid ?_
      go_wp2_with fail
      clear y0 y1 y2 y3 y4
      refine (HN.out _ HG3.out).mono ?_
      rintro e w4 ⟨rfl, hg4⟩
      have HO4 := Lib.hid (HO3.out.keep hg4)
      have HBF4 := Lib.hid (HBF3.out.grow hg4)
      have HB44 := Lib.hid (HB43.out.grow hg4)
      have HG4 : Hid (Grow w w4) := HG3.out.trans hg4
      clear hg4 HBF3 HB43 HG3 HO3 HN
      have zm : IntKind.u64.wrap ((m + 1 : Nat) : Int) = ((m + 1 : Nat) : Int) := by rw [IntKind.wrap_u64]; omega
      have zm2 : IntKind.u64.wrap ((m : Int) + 1) = ((m + 1 : Nat) : Int) := by rw [IntKind.wrap_u64]; omega
      obtain ⟨y2, y3, y4⟩ := HB44.out.c3
      by_cases hd : d = 0
      · have c1 : decide (((m + 1 : Nat) : Int) < (count : Int)) = false := decide_eq_false (by omega)
        have c2 : ¬ ((m + 1 : Nat) : Int) < (count : Int) := by omega
        have c3 : decide ((m : Int) + 1 < (count : Int)) = false := decide_eq_false (by omega)
        have c4 : decide (m + 1 < count) = false := decide_eq_false (by omega)
        rw [if_pos hd] at HRe
        by_cases ho0 : o = 0
        · rw [if_pos ho0] at HRe
          subst ho0
          go_wp2
          simp only [Exit.jump]
          go_ret2
          rw [HRe.out]
          exact .inl ⟨rfl, A3, _, by rw [List.length_append, ← HM.out]; rfl, by rw [List.length_append, ← HM.out]; exact HO4.out.ns, HG4.out⟩
        · rw [if_neg ho0] at HRe
          have c5 : ((o : Int) != 0) = true := by simp; omega
          obtain ⟨y0, y1⟩ := HBF4.out.c2
          go_wp2_with fail
          clear y0 y1
          refine (HSpot.out p 4 _ hp (by decide)).mono ?_
          rintro e w9 ⟨v, rfl, hE, hg9⟩
          have HE := Lib.hid hE
          have HG9 : Hid (Grow w w9) := HG4.out.trans hg9
          clear hE hg9 HSpot
          go_wp2
          simp only [Exit.jump]
          go_ret2
          rw [HRe.out]
          have hE2 := HE.out
          rw [Nat.min_eq_left (by omega)] at hE2
          exact .inr ⟨(by decide : (4 : Nat) ≠ 0), v, rfl, hE2, HG9.out⟩
      · have c1 : decide (((m + 1 : Nat) : Int) < (count : Int)) = true := decide_eq_true (by omega)
        have c2 : ((m + 1 : Nat) : Int) < (count : Int) := by omega
        have c3 : decide ((m : Int) + 1 < (count : Int)) = true := decide_eq_true (by omega)
        have c4 : decide (m + 1 < count) = true := decide_eq_true (by omega)
        rw [if_neg hd] at HRe
        by_cases hoz : o < z
        · rw [if_pos hoz] at HRe
          have c5 : decide ((o : Int) < (z : Int)) = true := decide_eq_true (by omega)
          have c6 : ((o : Int) < (z : Int)) := by omega
          obtain ⟨y0, y1⟩ := HBF4.out.c2
          go_wp2_with fail
          clear y0 y1
          refine (HSpot.out p 4 _ hp (by decide)).mono ?_
          rintro e w9 ⟨v, rfl, hE, hg9⟩
          have HE := Lib.hid hE
          have HG9 : Hid (Grow w w9) := HG4.out.trans hg9
          clear hE hg9 HSpot
          go_wp2
          simp only [Exit.jump]
          go_ret2
          rw [HRe.out]
          have hE2 := HE.out
          rw [Nat.min_eq_left (by omega)] at hE2
          exact .inr ⟨(by decide : (4 : Nat) ≠ 0), v, rfl, hE2, HG9.out⟩
        · rw [if_neg hoz] at HRe
          have c5 : decide ((o : Int) < (z : Int)) = false := decide_eq_false (by omega)
          have c6 : ¬ ((o : Int) < (z : Int)) := by omega
          obtain ⟨p2, hp2⟩ : ∃ p2, p2 = p + o := ⟨_, rfl⟩
          have zp : IntKind.u64.wrap ((p : Int) + (o : Int)) = (p2 : Int) := by rw [IntKind.wrap_u64]; omega
          rw [← hp2] at HRe
          have hp264 : p2 < 18446744073709551616 := by omega
          clear hp2
          go_wp2
          go_step3
          refine ⟨rfl, ⟨p2, d, T ++ [p], m + 1, A3, _, _, rfl, rfl, by rw [List.length_append, ← HM.out]; rfl, by omega, by omega, hp264, by rw [HRe.out]; simp, HO4.out, HBF4.out, HB44.out, HG4.out⟩, ?_⟩
          show count - (m + 1) < count - m
          omega
    · have d1 : decide (p + z ≤ n) = false := decide_eq_false hin
      rw [d1]
      rw [if_pos (by omega)] at HRe
      clear y2 y3 y4 y0 y1
      obtain ⟨y0, y1⟩ := HBF1.out.c2
      go_wp2_with fail
      clear y0 y1
      refine (HSpot.out p 2 _ hp (by decide)).mono ?_
      rintro e w9 ⟨v, rfl, hE, hg9⟩
      have HE := Lib.hid hE
      have HG9 : Hid (Grow w w9) := HG1.out.trans hg9
      clear hE hg9 HSpot
      go_wp2
      simp only [Exit.jump]
      go_ret2
      rw [HRe.out]
      exact .inr ⟨(by decide : (2 : Nat) ≠ 0), v, rfl, HE.out, HG9.out⟩
end Go.Proofs.Ytfnaigeakfgpbaa
