/-
  The walk of bezantlaw09.RelBack: at any relocations and bytes it returns true, and nothing that was there has changed.
-/
import Derived.Test.YtkgjebkjpcpoaaaUp9
import Derived.Test.YtkgjebkjpcpoaaaReAll
import Derived.Test.YtkgjebkjpcpoaaaReSame
import Derived.Test.YtkgjebkjpcpoaaaConv
namespace Go.Proofs.Ytkgjebkjpcpoaaa
open Go.RowKit

/-- All, at what Put told. -/
theorem all_put (L : List Re) (hok : ∀ s ∈ L, s.Ok) (h400 : L.length ≤ 400) (wide adds big : Bool) (hf : mays wide adds L = true) (A : Option Addr) (c : Nat) (w : World) (h : RB w w.heap.size A (rowB big (relQ wide adds L)).length c (rowB big (relQ wide adds L))) :
    Calls Try.prog 9 #[.slice A (rowB big (relQ wide adds L)).length c, .agg #[.bool wide, .bool big], .bool adds] w fun e w' =>
      ∃ A2 c2, e = .returned (.tuple #[.slice A2 L.length c2, .nilIface]) ∧ ZS w' w'.heap.size 4 A2 L.length c2 (L.map Re.C) ∧ Grow w w' := by
  have hl : (rowB big (relQ wide adds L)).length ≤ 10000 := by
    rw [relL_len]
    have := Nat.mul_le_mul h400 (reSize_le wide adds)
    omega
  refine (eAll_any A _ c _ wide adds big w h hl).mono ?_
  rintro e w' (⟨-, A2, c2, rfl, hz, hg⟩ | ⟨hno, -⟩)
  · rw [rels_put L hok wide adds big hf, relL_len, Nat.mul_div_cancel _ (reSize_pos wide adds)] at hz
    rw [relL_len, Nat.mul_div_cancel _ (reSize_pos wide adds)]
    exact ⟨A2, c2, rfl, hz, hg⟩
  · exact absurd (relL_mod wide adds big L) hno
/-- Put, at what All told. -/
theorem put_all (l : List UInt8) (h5 : l.length ≤ 5000) (wide adds big : Bool) (hr : l.length % reSize wide adds = 0) (A : Option Addr) (c : Nat) (w : World) (h : ZS w w.heap.size 4 A (l.length / reSize wide adds) c ((rels l wide adds big).map Re.C)) :
    Calls Try.prog 6 #[.slice A (l.length / reSize wide adds) c, .agg #[.bool wide, .bool big], .bool adds] w fun e w' =>
      ∃ A2 c2, e = .returned (.tuple #[.slice A2 l.length c2, .nilIface]) ∧ RB w' w'.heap.size A2 l.length c2 l ∧ Grow w w' := by
  have hm : (rels l wide adds big).length ≤ 1000 := by
    rw [rels, relsTo_len]
    have : l.length / reSize wide adds ≤ l.length / 8 := Nat.div_le_div_left (reSize_8 wide adds) (by decide)
    omega
  have hb := rels_back l wide adds big hr
  refine (ePut_any A _ c (rels l wide adds big) (relsTo_ok l wide adds big _) hm wide adds big w h).mono ?_
  rintro e w' (⟨-, A2, c2, rfl, ho, hg⟩ | ⟨hno, -⟩)
  · rw [hb] at ho
    rw [hb]
    exact ⟨A2, c2, rfl, ho.rb, hg⟩
  · rw [rels, relsTo_may] at hno
    cases hno

set_option maxRecDepth 100000 in
set_option maxHeartbeats 2000000 in
theorem relBack_core (A : Option Addr) (n c : Nat) (L : List Re) (wide adds big : Bool) (A2 : Option Addr) (n2 c2 : Nat) (l : List UInt8) (w : World)
    (h : ZS w w.heap.size 4 A n c (L.map Re.C)) (hok : ∀ s ∈ L, s.Ok) (h2 : RB w w.heap.size A2 n2 c2 l) :
    Calls Try.prog 4 #[.slice A n c, .agg #[.bool wide, .bool big], .bool adds, .slice A2 n2 c2] w fun e w' => e = .returned (.bool true) ∧ Below w.heap.size w w' := by
  obtain rfl : n = L.length := by have := h.len; simpa using this
  obtain rfl := h2.len
  have HS := Lib.hid h
  have HR2 := Lib.hid h2
  clear h h2
  by_cases hbig : 100 < L.length ∨ 5000 < l.length
  · clear hok
    by_cases b1 : 100 < L.length
    · have d1 : decide (100 < (L.length : Int)) = true := decide_eq_true (by omega)
      clear hbig
      go_enter Try.func4, Try.ntmps4
      go_wp2_with (go_at_call 5; refine (up9_any _).mono ?_; rintro e w1 ⟨rfl, hb1⟩; have HB := Lib.hid hb1; clear hb1)
      go_ret
      exact ⟨rfl, (Grow.of_alloc _ _).trans HB.out⟩
    have d1 : decide (100 < (L.length : Int)) = false := decide_eq_false (by omega)
    have d2 : decide (5000 < (l.length : Int)) = true := decide_eq_true (by omega)
    clear hbig
    go_enter Try.func4, Try.ntmps4
    go_wp2_with (go_at_call 5; refine (up9_any _).mono ?_; rintro e w1 ⟨rfl, hb1⟩; have HB := Lib.hid hb1; clear hb1)
    go_ret
    exact ⟨rfl, (Grow.of_alloc _ _).trans HB.out⟩
  · have d1 : decide (100 < (L.length : Int)) = false := decide_eq_false (by omega)
    have d2 : decide (5000 < (l.length : Int)) = false := decide_eq_false (by omega)
    have hL : L.length ≤ 400 := by omega
    have hl : l.length ≤ 5000 := by omega
    have HP := Lib.hid (fun W (h : ZS W W.heap.size 4 A L.length c (L.map Re.C)) => ePut_any A L.length c L hok (by omega) wide adds big W h)
    have HX := Lib.hid (fun (hf : mays wide adds L = true) Ac cc W h => all_put L hok hL wide adds big hf Ac cc W h)
    have HA := Lib.hid (fun W (h : RB W W.heap.size A2 l.length c2 l) => eAll_any A2 l.length c2 l wide adds big W h (by omega))
    have HD := Lib.hid (fun (hr : l.length % reSize wide adds = 0) Ax cx W h => put_all l hl wide adds big hr Ax cx W h)
    have HZ := Lib.hid (fun W => reSize_any wide big adds W)
    have HPl : Hid ((rowB big (relQ wide adds L)).length = L.length * reSize wide adds) := Lib.hid (relL_len wide adds big L)
    have hs24 := reSize_le wide adds
    have HSm : Hid (∀ (A A' : Option Addr) (c c' : Nat) (w : World), ZS w w.heap.size 4 A L.length c (L.map Re.C) → ZS w w.heap.size 4 A' L.length c' (L.map Re.C) → Calls Try.prog 13 #[.slice A L.length c, .slice A' L.length c'] w fun e w' => e = .returned (.int .i64 1) ∧ Grow w w') :=
      Lib.hid (fun A A' c c' w h h' => sameR_any A A' _ c _ c' L _ _ w h h')
    unfold EPut at HP
    unfold EAll at HA
    generalize mays wide adds L = rf at HP HX
    generalize rowB big (relQ wide adds L) = P at HP HX HPl
    generalize l.length - l.length % reSize wide adds = pl at HA
    generalize l.length % reSize wide adds = r at HA HD
    generalize l.length / reSize wide adds = m at HA HD
    generalize rels l wide adds big = S at HA HD
    generalize L.map Re.C = M at HS HP HX HSm
    generalize L.length = n at HS HP HX HSm d1 hL HPl ⊢
    generalize reSize wide adds = sz at HZ HPl hs24
    have hnz : n * sz ≤ 400 * 24 := Nat.mul_le_mul hL hs24
    have zN : IntKind.i64.wrap ((n : Int) * (sz : Int)) = (P.length : Int) := by
      rw [HPl.out, Int.natCast_mul, IntKind.wrap_i64]
      have : (n : Int) * (sz : Int) = ((n * sz : Nat) : Int) := by simp
      omega
    have ZN := Lib.hid zN
    clear hbig hL hl hok hnz zN hs24 HPl
    go_enter Try.func4, Try.ntmps4
    go_wp2_with fail
    generalize hW : World.alloc _ _ = W0
    obtain ⟨bf, hg0⟩ := blk1 hW
    clear hW
    refine (up9_any _).mono ?_
    rintro e w1 ⟨rfl, hg1⟩
    have HF1 := Lib.hid (bf.grow hg1)
    have HG1 : Hid (Grow w w1) := hg0.trans hg1
    clear hg1 bf hg0
    obtain ⟨f0, f1⟩ := HF1.out.c2
    go_wp2_with fail
    clear f0 f1
    refine (HP.out _ (HS.out.grow HG1.out)).mono ?_
    rintro e w3 (⟨hrf, Ac, cc, rfl, hoc3, hg3⟩ | ⟨hrf, rfl, hg3⟩)
    case' inl =>
      subst hrf
      have HRC3 := Lib.hid hoc3.rb
      have HF3 := Lib.hid (HF1.out.grow hg3)
      have HG3 : Hid (Grow w w3) := HG1.out.trans hg3
      clear hg3 hoc3 HF1 HG1 HP
      obtain ⟨f0, f1⟩ := HF3.out.c2
      go_wp2_with fail
      clear f0 f1
      refine (HX.out (by first | rfl | trivial) _ _ _ HRC3.out).mono ?_
      rintro e w4 ⟨Ax, cx, rfl, hz4, hg4⟩
      have HZ4 := Lib.hid hz4
      have HF4 := Lib.hid (HF3.out.grow hg4)
      have HG4 : Hid (Grow w w4) := HG3.out.trans hg4
      clear hz4 hg4 HF3 HG3 HRC3 HX
      go_wp2_with fail
      refine (HSm.out _ _ _ _ _ HZ4.out (HS.out.grow HG4.out)).mono ?_
      rintro e w4b ⟨rfl, hg5⟩
      have HF4b := Lib.hid (HF4.out.grow hg5)
      have HG4b : Hid (Grow w w4b) := HG4.out.trans hg5
      clear hg5 HZ4 HF4 HG4 HSm
      obtain ⟨f0, f1⟩ := HF4b.out.c2
      go_wp2_with fail
      clear f0 f1
      refine (HZ.out _).mono ?_
      rintro e w5 ⟨rfl, hg5⟩
      have HF5 := Lib.hid (HF4b.out.grow hg5)
      have HG5 : Hid (Grow w w5) := HG4b.out.trans hg5
      clear hg5 HF4b HG4b
      obtain ⟨f0, f1⟩ := HF5.out.c2
      have zN := ZN.out
      go_wp2_with fail
      clear f0 f1 zN
    case' inr =>
      subst hrf
      have HF5 := Lib.hid (HF1.out.grow hg3)
      have HG5 : Hid (Grow w w3) := HG1.out.trans hg3
      clear hg3 HF1 HG1 HP
      obtain ⟨f0, f1⟩ := HF5.out.c2
      go_wp2_with fail
      clear f0 f1
    all_goals
      refine (HA.out _ (HR2.out.grow HG5.out)).mono ?_
      rintro e w6 (⟨hr, Ax, cx, rfl, hzx, hg6⟩ | ⟨hr, er, rfl, he, hg6⟩)
      · have HR0 := Lib.hid hr
        have HZ6 := Lib.hid hzx
        have HF6 := Lib.hid (HF5.out.grow hg6)
        have HG6 : Hid (Grow w w6) := HG5.out.trans hg6
        clear hg6 hzx hr HF5 HG5 HA
        obtain ⟨f0, f1⟩ := HF6.out.c2
        go_wp2_with fail
        clear f0 f1
        refine (HD.out HR0.out _ _ _ HZ6.out).mono ?_
        rintro e w7 ⟨Ad, cd, rfl, hrd, hg7⟩
        have HG7 : Hid (Grow w w7) := HG6.out.trans hg7
        have hs1 := (hrd.conv (Nat.le_refl _)) w7 (Grow.refl _)
        have hs2 := ((HR2.out.grow HG7.out).conv (Nat.le_refl _)) w7 (Grow.refl _)
        clear hg7 hrd HZ6 HF6 HG6 HD
        go_wp2
        go_ret
        exact ⟨rfl, HG7.out⟩
      · rcases he with ⟨h0, -⟩ | ⟨-, b, rfl, -⟩
        · omega
        have HG6 : Hid (Grow w w6) := HG5.out.trans hg6
        clear hg6 hr
        go_wp2
        go_ret
        exact ⟨rfl, HG6.out⟩
end Go.Proofs.Ytkgjebkjpcpoaaa
