/-
  The contract of ver.all at api.Def: all of a chain, or what is wrong first, and where.
-/
import Derived.Test.YtfnaigeakfgpbaaVeAllA
import Derived.Test.YtfnaigeakfgpbaaVeDef
import Derived.Test.YtfnaigeakfgpbaaZapp
namespace Go.Proofs.Ytfnaigeakfgpbaa
open Go.RowKit

/-- The frame at the label. -/
def AlJD (w : World) (A : Option Addr) (n c : Nat) (big : Bool) (S z cp : Nat) (G : Nat → Nat → Nat) (R : List (Nat × List Nat) × Nat × Nat) (ac : Act) (wr : World) : Prop :=
  ∃ (f a : Nat) (T : List (Nat × List Nat)) (RR : List (Array Value)) (m : Nat) (A2 : Option Addr) (c2 : Nat) (U : List Value),
    ac = ⟨([.agg #[.slice A n c, .bool big], .agg #[.int .u64 (S : Int), .int .u64 (z : Int), .int .u64 (cp : Int)], .func (.func 26) #[.agg #[.slice A n c, .bool big]] #[], .pointer (some ⟨w.heap.size, 0, none⟩), .pointer (some ⟨w.heap.size + 1, 0, none⟩), undef, .slice none 0 0, .nilIface, .slice A2 m c2, .int .u64 (a : Int)] ++ U).toArray, []⟩ ∧ U.length = 63 ∧ m = T.length ∧
    1 ≤ f ∧ n < a + f ∧ m + f = n + 1 ∧ a < 18446744073709551616 ∧ R = (T ++ (vtAll vkD G n f a).1, (vtAll vkD G n f a).2) ∧
    ZO wr (w.heap.size + 2) 55 4 A2 m c2 RR ∧ VeOs vmD wr (w.heap.size + 2) RR (T.map (veOf vkD G)) ∧ Blk wr w.heap.size 70 #[.slice A n c, .bool big] ∧
    Blk wr (w.heap.size + 1) 73 #[.int .u64 (S : Int), .int .u64 (z : Int), .int .u64 (cp : Int)] ∧ Grow w wr

set_option maxRecDepth 100000 in
set_option maxHeartbeats 4000000 in
theorem vallD_any (A : Option Addr) (n c : Nat) (l : List UInt8) (big : Bool) (w : World) (h : RB w w.heap.size A n c l) (hn47 : n ≤ 1000000)
    (tell : ∀ (a : Nat) (ps : List Nat) (A2 : Option Addr) (n2 c2 : Nat) (w' : World), Grow w w' → NS w' w'.heap.size .u64 A2 n2 c2 ps → a + vkD.S ≤ n → (∀ k ∈ ps, k + vkD.z ≤ n) → ps.length ≤ 65535 →
      Calls Try.prog 26 #[.agg #[.slice A n c, .bool big], .int .u64 a, .slice A2 n2 c2] w' (VTell vmD (veOf vkD (vG l big) (a, ps)) w')) :
    Calls Try.prog 25 #[.agg #[.slice A n c, .bool big], shV vkD, .func (.func 26) #[.agg #[.slice A n c, .bool big]] #[]] w (VAll vmD (vAns vkD l big) w) := by
  have hK : vkD.Is := .inl rfl
  obtain ⟨hz8, hz16, hS16, hS20, hcp, -, -⟩ := K_small hK
  have hmx := h.max
  have hcap := h.cap
  have hln := h.len
  have HRB : ∀ w', Grow w w' → RB w' w'.heap.size A n c l := fun w' hg => (h.belowAt hg (Nat.le_refl _)).more hg.size
  have HHas := Lib.hid fun p w' (hg : Grow w w') => vhas_any A n c l p vkD.S big w' (HRB w' hg)
  have HWell := Lib.hid fun a w' (hq : a + vkD.S ≤ n) (hg : Grow w w') => vwell_any vkD A n c l a big w' (HRB w' hg) hK hq
  have HParts := Lib.hid fun a w' (hq : a + vkD.S ≤ n) (h0 : 0 < vG l big (a + vkD.cp) 2) (hg : Grow w w') => vparts_any vkD A n c l a big w' (HRB w' hg) hK hq h0
  have HNext := Lib.hid fun a w' (hq : a + vkD.S ≤ n) (hg : Grow w w') => vnext_any A n c l a vkD.S big w' (HRB w' hg) (by omega) hq
  have HSpot := Lib.hid fun p code w' (hp : p < 18446744073709551616) (hc : 0 < code) => vspot_any A n c p code big w' (Nat.le_trans hcap hmx) hp hc
  have HTell := Lib.hid tell
  have HL4 := Lib.hid fun q => vG_lt4 l big q
  have HL2 := Lib.hid fun q => vG_lt2 l big q
  have HIn : Hid (∀ a, (vtOne vkD (vG l big) n a).2.1 = 0 → (vtOne vkD (vG l big) n a).1.length ≤ vG l big (a + vkD.cp) 2 ∧ ∀ k ∈ (vtOne vkD (vG l big) n a).1, k + vkD.z ≤ n) := Lib.hid fun a => vtParts_in _ n _ _ _
  have HCw : Hid (∀ a, vWell vkD (vG l big) a = true → 0 < vG l big (a + vkD.cp) 2) := Lib.hid fun a hw => by
    unfold vWell at hw
    simp only [Bool.and_eq_true, decide_eq_true_eq] at hw
    omega
  have HNx : Hid (∀ a, vNext vkD (vG l big) a = vG l big (a + (vkD.S - 4)) 4) := Lib.hid fun a => rfl
  have HVs : Hid (∀ G n d a, vtAll vkD G n (d + 1) a = _) := Lib.hid fun G n d a => by rw [vtAll]
  unfold vAns
  rw [← hln]
  generalize vG l big = G at HWell HParts HNext HTell HL4 HL2 HIn HCw HNx ⊢
  unfold shV at *
  generalize vkD.S = S at *
  generalize vkD.z = z at *
  generalize vkD.cp = cp at *
  clear tell h HRB hK hcp hmx hcap hln
  by_cases hn0 : n = 0
  · rw [if_pos hn0]
    subst hn0
    clear HHas HWell HParts HNext HSpot HTell HL4 HL2 HIn HCw HNx HVs
    go_enter Try.func25, Try.ntmps25
    go_wp2
    refine wp_scope_loop 0 (fun _ _ => False) (fun _ _ => 0) rfl (fun _ _ h => h.elim) (fun _ => ?_)
    go_wp2_with fail
    simp only [Exit.jump]
    go_ret2
    exact .inl ⟨rfl, none, 0, rfl, ZV.nil, (Grow.of_alloc _ _).trans (Grow.of_alloc _ _)⟩
  · rw [if_neg hn0]
    obtain ⟨R, hR⟩ : ∃ R, vtAll vkD G n (n + 1) 0 = R := ⟨_, rfl⟩
    have HRe0 := Lib.hid hR
    rw [hR]
    clear hR
    go_enter Try.func25, Try.ntmps25
    go_wp2
    refine wp_scope_loop 0 (AlJD w A n c big S z cp G R) (fun a _ => n + 1 - vLen (a.tmps.getD 8 undef)) rfl ?pass ?first
    case first =>
      intro hp
      have HP := Lib.hid hp
      have e0 : ((n : Int) == 0) = false := by simp; omega
      clear hp HHas HWell HParts HNext HSpot HTell HL4 HL2 HIn HCw HNx HVs
      go_wp2_with fail
      generalize hW : World.alloc _ _ = W0
      obtain ⟨bf, b4, hg0⟩ := blk2 hW
      clear hW
      rename_i K hK
      go_step3
      refine hK _ _ (HP.out _ _ ⟨n + 1, 0, [], [], 0, none, 0, _, rfl, rfl, rfl, by omega, by omega, by omega, by omega, ?_, ZO.nil, VeOs.nil, bf, b4, hg0⟩)
      rw [HRe0.out]; rfl
    case pass =>
      clear HRe0
      rintro ac wr ⟨f, a, T, RR, m, A2, c2, U, rfl, hU, hm, hf, hfa, hmf, ha64, hRe, ho, ht, hbf, hb4, hg⟩
      obtain ⟨d, rfl⟩ : ∃ d, f = d + 1 := ⟨f - 1, by omega⟩
      obtain ⟨x0, x1, x2, x3, x4, x5, x6, x7, x8, x9, x10, x11, x12, x13, x14, x15, x16, x17, x18, x19, x20, x21, x22, x23, x24, x25, x26, x27, x28, x29, x30, x31, x32, x33, x34, x35, x36, x37, x38, x39, x40, x41, x42, x43, x44, x45, x46, x47, x48, x49, x50, x51, x52, x53, x54, x55, x56, x57, x58, x59, x60, x61, x62, rfl⟩ := list63 hU
      simp only [List.cons_append, List.nil_append]
      clear hU
      have HM := Lib.hid hm
      clear hm
      rw [HVs.out] at hRe
      have HRe := Lib.hid hRe
      have HO0 := Lib.hid ho
      have HT0 := Lib.hid ht
      have HBF0 := Lib.hid hbf
      have HB40 := Lib.hid hb4
      have HG0 := Lib.hid hg
      have hIn := HIn.out a
      have hCw := HCw.out a
      have hNx := HNx.out a
      clear hRe ho ht hbf hb4 hg HVs HIn HCw HNx
      obtain ⟨y0, y1⟩ := HBF0.out.c2
      obtain ⟨y2, y3, y4⟩ := HB40.out.c3
      go_wp2_with fail
      clear y0 y1 y2 y3 y4
      refine (HHas.out a _ HG0.out).mono ?_
      rintro e w1 ⟨rfl, hg1⟩
      have HO1 := Lib.hid (HO0.out.keep hg1)
      have HT1 := Lib.hid (HT0.out.keep hg1)
      have HBF1 := Lib.hid (HBF0.out.grow hg1)
      have HB41 := Lib.hid (HB40.out.grow hg1)
      have HG1 : Hid (Grow w w1) := HG0.out.trans hg1
      clear hg1 HO0 HT0 HBF0 HB40 HG0
      clear HHas
      by_cases hin : a + S ≤ n
      · have d1 : decide (a + S ≤ n) = true := decide_eq_true hin
        rw [d1]
        rw [if_neg (by omega)] at HRe
        have HWl := Lib.hid fun w' => HWell.out a w' hin
        have HPt := Lib.hid fun w' h => HParts.out a w' hin h
        have HNe := Lib.hid fun w' => HNext.out a w' hin
        have HTl := Lib.hid fun ps A2 n2 c2 w' hg hns hk hl => HTell.out a ps A2 n2 c2 w' hg hns hin hk hl
        have hL4 := HL4.out (a + (S - 4))
        have hL2 := HL2.out (a + cp)
        rw [hNx] at HRe
        clear HWell HParts HNext HTell HL4 HL2 hNx d1
        generalize vWell vkD G a = wv at HWl HRe hCw
        generalize vtOne vkD G n a = P at HPt HRe hIn
        generalize G (a + (S - 4)) 4 = o at HNe HRe hL4
        generalize G (a + cp) 2 = cnt at HPt hIn hCw hL2
        obtain ⟨y0, y1⟩ := HBF1.out.c2
        obtain ⟨y2, y3, y4⟩ := HB41.out.c3
        go_wp2_with fail
        clear y0 y1 y2 y3 y4
        refine (HWl.out _ HG1.out).mono ?_
        rintro e w2 ⟨rfl, hg2⟩
        have HO2 := Lib.hid (HO1.out.keep hg2)
        have HT2 := Lib.hid (HT1.out.keep hg2)
        have HBF2 := Lib.hid (HBF1.out.grow hg2)
        have HB42 := Lib.hid (HB41.out.grow hg2)
        have HG2 : Hid (Grow w w2) := HG1.out.trans hg2
        clear hg2 HO1 HT1 HBF1 HB41 HG1
        clear HWl
        cases wv
        · rw [if_pos rfl] at HRe
          obtain ⟨y0, y1⟩ := HBF2.out.c2
          go_wp2_with fail
          clear y0 y1
          refine (HSpot.out a 4 _ ha64 (by decide)).mono ?_
          rintro e w9 ⟨v, rfl, hE, hg9⟩
          have HE := Lib.hid hE
          have HG9 : Hid (Grow w w9) := HG2.out.trans hg9
          clear hE hg9 HSpot
          go_wp2
          simp only [Exit.jump]
          go_ret2
          rw [HRe.out]
          have hE2 := HE.out
          rw [Nat.min_eq_left (by omega)] at hE2
          exact .inr ⟨(by decide : (4 : Nat) ≠ 0), v, rfl, hE2, HG9.out⟩
        · rw [if_neg (by decide)] at HRe
          have HPt2 := Lib.hid fun w' => HPt.out w' (hCw rfl)
          clear HPt hCw
          obtain ⟨y0, y1⟩ := HBF2.out.c2
          obtain ⟨y2, y3, y4⟩ := HB42.out.c3
          go_wp2_with fail
          clear y0 y1 y2 y3 y4
          refine (HPt2.out _ HG2.out).mono ?_
          rintro e w3 (⟨hP0, A5, c5, rfl, hns, hg3⟩ | ⟨hP0, v, rfl, hE, hg3⟩)
          · have HNs := Lib.hid hns
            have HO3 := Lib.hid (HO2.out.keep hg3)
            have HT3 := Lib.hid (HT2.out.keep hg3)
            have HBF3 := Lib.hid (HBF2.out.grow hg3)
            have HB43 := Lib.hid (HB42.out.grow hg3)
            have HG3 : Hid (Grow w w3) := HG2.out.trans hg3
            clear hg3 HO2 HT2 HBF2 HB42 HG2
            obtain ⟨hPl, hPk⟩ := hIn hP0
            rw [if_neg (by rw [hP0]; decide)] at HRe
            have HTl2 := Lib.hid fun A2 n2 c2 w' hg hns => HTl.out P.1 A2 n2 c2 w' hg hns hPk (by omega)
            clear HPt2 hIn hns hPl hPk HTl
            obtain ⟨ps, hps⟩ : ∃ ps, ps = P.1 := ⟨_, rfl⟩
            rw [← hps] at HRe HTl2 HNs
            rw [← hps]
            clear hP0 hps
            generalize hpn : ps.length = pn at HNs ⊢
            clear hpn
            obtain ⟨y0, y1⟩ := HBF3.out.c2
            obtain ⟨y2, y3, y4⟩ := HB43.out.c3
            go_wp2_with fail
            clear y0 y1 y2 y3 y4
            refine (HNe.out _ HG3.out).mono ?_
            rintro e w4 ⟨rfl, hg4⟩
            have HO4 := Lib.hid (HO3.out.keep hg4)
            have HT4 := Lib.hid (HT3.out.keep hg4)
            have HBF4 := Lib.hid (HBF3.out.grow hg4)
            have HB44 := Lib.hid (HB43.out.grow hg4)
            have HG4 : Hid (Grow w w4) := HG3.out.trans hg4
            have HNs4 := Lib.hid ((HNs.out.belowAt hg4 (Nat.le_refl _)).more hg4.size)
            clear hg4 HO3 HT3 HBF3 HB43 HG3
            clear HNe HNs
            obtain ⟨y2, y3, y4⟩ := HB44.out.c3
            by_cases hbad : o ≠ 0 ∧ o < S
            · have u1 : ((o : Int) != 0) = true := by simp; omega
              have u2 : decide ((o : Int) < (S : Int)) = true := decide_eq_true (by omega)
              have u3 : (o : Int) < (S : Int) := by omega
              rw [if_neg hbad.1, if_pos hbad.2] at HRe
              clear hbad
              obtain ⟨y0, y1⟩ := HBF4.out.c2
              go_wp2_with fail
              clear y0 y1
              refine (HSpot.out a 4 _ ha64 (by decide)).mono ?_
              rintro e w9 ⟨v, rfl, hE, hg9⟩
              have HE := Lib.hid hE
              have HG9 : Hid (Grow w w9) := HG4.out.trans hg9
              clear hE hg9 HSpot
              go_wp2
              simp only [Exit.jump]
              go_ret2
              rw [HRe.out]
              have hE2 := HE.out
              rw [Nat.min_eq_left (by omega)] at hE2
              exact .inr ⟨(by decide : (4 : Nat) ≠ 0), v, rfl, hE2, HG9.out⟩
            · by_cases h0 : o = 0
              · have u1 : ((o : Int) != 0) = false := by simp; omega
                rw [if_pos h0] at HRe
                clear hbad hL4
                subst h0
                go_wp2_with fail
                clear y2 y3 y4
                refine (HTl2.out _ _ _ _ HG4.out HNs4.out).mono ?_
                rintro e w5 ⟨r, rfl, hv, hg5⟩
                have HV := Lib.hid (hv.mono (show w.heap.size + 2 ≤ w4.heap.size from HB44.out.lt))
                have HO5 := Lib.hid (HO4.out.keep hg5)
                have HT5 := Lib.hid (HT4.out.keep hg5)
                have HBF5 := Lib.hid (HBF4.out.grow hg5)
                have HB45 := Lib.hid (HB44.out.grow hg5)
                have HG5 : Hid (Grow w w5) := HG4.out.trans hg5
                clear hg5 HO4 HT4 HBF4 HB44 HG4
                obtain ⟨A3, n3, c3', hr, hz⟩ := hv
                have HRo := Lib.hid (VM.Is.head (M := vmD) (.inl rfl) (veOf vkD G (a, ps)).h A3 n3 c3')
                simp only [vmD] at hr HRo
                generalize (veOf vkD G (a, ps)).h.getD 0 0 = h0 at hr HRo
                generalize (veOf vkD G (a, ps)).h.getD 1 0 = h1 at hr HRo
                generalize (veOf vkD G (a, ps)).h.getD 2 0 = h2 at hr HRo
                clear hz
                subst hr
                have HSz : Hid (w.heap.size + 2 ≤ w5.heap.size) := Lib.hid HB45.out.lt
                have hal : Below (w.heap.size + 2) w5 (w5.alloc (.cells #[.int .u16 (h0 : Int), .int .u16 (h1 : Int), .int .u32 (h2 : Int), .slice A3 n3 c3'] 55)) := Below.alloc (Below.refl _ _) HSz.out _
                have HSz2 := Lib.hid (Nat.le_trans HSz.out hal.size)
                have HNu := Lib.hid (Blk.new w5 55 #[.int .u16 (h0 : Int), .int .u16 (h1 : Int), .int .u32 (h2 : Int), .slice A3 n3 c3'])
                have HOA := Lib.hid (HO5.out.keep (Grow.of_alloc w5 (.cells #[.int .u16 (h0 : Int), .int .u16 (h1 : Int), .int .u32 (h2 : Int), .slice A3 n3 c3'] 55)))
                have HTA := Lib.hid (HT5.out.keep (Grow.of_alloc w5 (.cells #[.int .u16 (h0 : Int), .int .u16 (h1 : Int), .int .u32 (h2 : Int), .slice A3 n3 c3'] 55)))
                have HVA := Lib.hid (HV.out.keep (Grow.of_alloc w5 (.cells #[.int .u16 (h0 : Int), .int .u16 (h1 : Int), .int .u32 (h2 : Int), .slice A3 n3 c3'] 55)))
                have HLb := Lib.hid hal
                clear hal HV HO5 HT5
                go_wp2_with (at_builtin; refine wpList_appendZ (w5.alloc (.cells #[.int .u16 (h0 : Int), .int .u16 (h1 : Int), .int .u32 (h2 : Int), .slice A3 n3 c3'] 55)) rfl (.tmp 60) (.tmp 65) 22 rfl (w.heap.size + 2) 55 (.agg #[.int .u16 0, .int .u16 0, .int .u32 0, .slice none 0 0]) 4 32 Try.underlying22 (by kernel_rfl) rfl (by omega) A2 m c2 _ rfl HOA.out w5.heap.size _ #[.int .u16 (h0 : Int), .int .u16 (h1 : Int), .int .u32 (h2 : Int), .slice A3 n3 c3'] rfl HNu.out rfl HRo.out.2 (by unfold maxLen; omega) (by omega) HSz2.out ?_; intro A6 c6 w7 ho7 hg7 _; refine Hid.out ?_)
                have hb7 : Below (w.heap.size + 2) w5 w7 := HLb.out.trans ((Below.refl _ _).grown hg7 HSz2.out (fun j hj => HOA.out.ge hj))
                have HBF7 := Lib.hid (HBF5.out.below hb7 (by omega))
                have HB47 := Lib.hid (HB45.out.below hb7 (by omega))
                have HG7 : Hid (Grow w w7) := HG5.out.trans' (hb7.mono (by omega))
                have HO7 := Lib.hid ho7
                have HT7 : Hid (VeOs vmD w7 (w.heap.size + 2) (RR ++ [#[.int .u16 (h0 : Int), .int .u16 (h1 : Int), .int .u32 (h2 : Int), .slice A3 n3 c3']]) ((T ++ [(a, ps)]).map (veOf vkD G))) := Lib.hid (by
                  rw [List.map_append]
                  exact (HTA.out.past HOA.out (by decide) hg7).snoc (HVA.out.past HOA.out (by decide) hg7))
                clear ho7 hg7 hb7 HBF5 HB45 HG5 HSz HSz2 HNu HOA HTA HVA HLb HRo
                refine Lib.hid ?_
                go_wp2
                simp only [Exit.jump]
                go_ret2
                rw [HRe.out]
                refine .inl ⟨rfl, A6, _, by simp only [List.length_map, List.length_append, List.length_singleton, ← HM.out]; rfl, ?_, HG7.out⟩
                simp only [List.length_map, List.length_append, List.length_singleton, ← HM.out]
                exact HO7.out.zv HT7.out
              · have u1 : ((o : Int) != 0) = true := by simp; omega
                have u2 : decide ((o : Int) < (S : Int)) = false := decide_eq_false (by omega)
                have u3 : ¬ (o : Int) < (S : Int) := by omega
                rw [if_neg h0, if_neg (by omega)] at HRe
                go_wp2_with fail
                clear y2 y3 y4
                refine (HTl2.out _ _ _ _ HG4.out HNs4.out).mono ?_
                rintro e w5 ⟨r, rfl, hv, hg5⟩
                have HV := Lib.hid (hv.mono (show w.heap.size + 2 ≤ w4.heap.size from HB44.out.lt))
                have HO5 := Lib.hid (HO4.out.keep hg5)
                have HT5 := Lib.hid (HT4.out.keep hg5)
                have HBF5 := Lib.hid (HBF4.out.grow hg5)
                have HB45 := Lib.hid (HB44.out.grow hg5)
                have HG5 : Hid (Grow w w5) := HG4.out.trans hg5
                clear hg5 HO4 HT4 HBF4 HB44 HG4
                obtain ⟨A3, n3, c3', hr, hz⟩ := hv
                have HRo := Lib.hid (VM.Is.head (M := vmD) (.inl rfl) (veOf vkD G (a, ps)).h A3 n3 c3')
                simp only [vmD] at hr HRo
                generalize (veOf vkD G (a, ps)).h.getD 0 0 = h0 at hr HRo
                generalize (veOf vkD G (a, ps)).h.getD 1 0 = h1 at hr HRo
                generalize (veOf vkD G (a, ps)).h.getD 2 0 = h2 at hr HRo
                clear hz
                subst hr
                have HSz : Hid (w.heap.size + 2 ≤ w5.heap.size) := Lib.hid HB45.out.lt
                have hal : Below (w.heap.size + 2) w5 (w5.alloc (.cells #[.int .u16 (h0 : Int), .int .u16 (h1 : Int), .int .u32 (h2 : Int), .slice A3 n3 c3'] 55)) := Below.alloc (Below.refl _ _) HSz.out _
                have HSz2 := Lib.hid (Nat.le_trans HSz.out hal.size)
                have HNu := Lib.hid (Blk.new w5 55 #[.int .u16 (h0 : Int), .int .u16 (h1 : Int), .int .u32 (h2 : Int), .slice A3 n3 c3'])
                have HOA := Lib.hid (HO5.out.keep (Grow.of_alloc w5 (.cells #[.int .u16 (h0 : Int), .int .u16 (h1 : Int), .int .u32 (h2 : Int), .slice A3 n3 c3'] 55)))
                have HTA := Lib.hid (HT5.out.keep (Grow.of_alloc w5 (.cells #[.int .u16 (h0 : Int), .int .u16 (h1 : Int), .int .u32 (h2 : Int), .slice A3 n3 c3'] 55)))
                have HVA := Lib.hid (HV.out.keep (Grow.of_alloc w5 (.cells #[.int .u16 (h0 : Int), .int .u16 (h1 : Int), .int .u32 (h2 : Int), .slice A3 n3 c3'] 55)))
                have HLb := Lib.hid hal
                clear hal HV HO5 HT5
                go_wp2_with (at_builtin; refine wpList_appendZ (w5.alloc (.cells #[.int .u16 (h0 : Int), .int .u16 (h1 : Int), .int .u32 (h2 : Int), .slice A3 n3 c3'] 55)) rfl (.tmp 60) (.tmp 65) 22 rfl (w.heap.size + 2) 55 (.agg #[.int .u16 0, .int .u16 0, .int .u32 0, .slice none 0 0]) 4 32 Try.underlying22 (by kernel_rfl) rfl (by omega) A2 m c2 _ rfl HOA.out w5.heap.size _ #[.int .u16 (h0 : Int), .int .u16 (h1 : Int), .int .u32 (h2 : Int), .slice A3 n3 c3'] rfl HNu.out rfl HRo.out.2 (by unfold maxLen; omega) (by omega) HSz2.out ?_; intro A6 c6 w7 ho7 hg7 _; refine Hid.out ?_)
                have hb7 : Below (w.heap.size + 2) w5 w7 := HLb.out.trans ((Below.refl _ _).grown hg7 HSz2.out (fun j hj => HOA.out.ge hj))
                have HBF7 := Lib.hid (HBF5.out.below hb7 (by omega))
                have HB47 := Lib.hid (HB45.out.below hb7 (by omega))
                have HG7 : Hid (Grow w w7) := HG5.out.trans' (hb7.mono (by omega))
                have HO7 := Lib.hid ho7
                have HT7 : Hid (VeOs vmD w7 (w.heap.size + 2) (RR ++ [#[.int .u16 (h0 : Int), .int .u16 (h1 : Int), .int .u32 (h2 : Int), .slice A3 n3 c3']]) ((T ++ [(a, ps)]).map (veOf vkD G))) := Lib.hid (by
                  rw [List.map_append]
                  exact (HTA.out.past HOA.out (by decide) hg7).snoc (HVA.out.past HOA.out (by decide) hg7))
                clear ho7 hg7 hb7 HBF5 HB45 HG5 HSz HSz2 HNu HOA HTA HVA HLb HRo
                refine Lib.hid ?_
                obtain ⟨a2, ha2⟩ : ∃ a2, a2 = a + o := ⟨_, rfl⟩
                have zp : IntKind.u64.wrap ((a : Int) + (o : Int)) = (a2 : Int) := by rw [IntKind.wrap_u64]; omega
                rw [← ha2] at HRe
                have ha264 : a2 < 18446744073709551616 := by omega
                have hd : 1 ≤ d ∧ n < a2 + d ∧ m + 1 + d = n + 1 := by omega
                clear ha2
                go_wp2
                go_step3
                refine ⟨rfl, ⟨d, a2, T ++ [(a, ps)], _, m + 1, A6, _, _, rfl, rfl, by rw [List.length_append, ← HM.out]; rfl, hd.1, hd.2.1, hd.2.2, ha264, by rw [HRe.out]; simp, HO7.out, HT7.out, HBF7.out, HB47.out, HG7.out⟩, ?_⟩
                show n + 1 - (m + 1) < n + 1 - m
                omega
          · have HE := Lib.hid hE
            have HO3 := Lib.hid (HO2.out.keep hg3)
            have HT3 := Lib.hid (HT2.out.keep hg3)
            have HBF3 := Lib.hid (HBF2.out.grow hg3)
            have HB43 := Lib.hid (HB42.out.grow hg3)
            have HG3 : Hid (Grow w w3) := HG2.out.trans hg3
            clear hg3 HO2 HT2 HBF2 HB42 HG2
            rw [if_pos hP0] at HRe
            clear HPt2 HTl HNe HSpot hIn
            obtain ⟨b, rfl⟩ := hE.some hP0
            clear hE
            go_wp2
            simp only [Exit.jump]
            go_ret2
            rw [HRe.out]
            exact .inr ⟨hP0, _, rfl, HE.out, HG3.out⟩
      · have d1 : decide (a + S ≤ n) = false := decide_eq_false hin
        rw [d1]
        rw [if_pos (by omega)] at HRe
        clear HWell HParts HNext HTell HL4 HL2 hIn hCw hNx
        obtain ⟨y0, y1⟩ := HBF1.out.c2
        go_wp2_with fail
        clear y0 y1
        refine (HSpot.out a 2 _ ha64 (by decide)).mono ?_
        rintro e w9 ⟨v, rfl, hE, hg9⟩
        have HE := Lib.hid hE
        have HG9 : Hid (Grow w w9) := HG1.out.trans hg9
        clear hE hg9 HSpot
        go_wp2
        simp only [Exit.jump]
        go_ret2
        rw [HRe.out]
        exact .inr ⟨(by decide : (2 : Nat) ≠ 0), v, rfl, HE.out, HG9.out⟩
end Go.Proofs.Ytfnaigeakfgpbaa
