/-
  The contract of the document's own Notes: all notes of any bytes, or what is wrong, and where the note begins.
-/
import Derived.Test.YtheekcjpphcihaaNtAll
import Derived.Test.YtheekcjpphcihaaNtEmpty
import Derived.Test.YtheekcjpphcihaaRefNums
import Derived.Test.YtheekcjpphcihaaCut
namespace Go.Proofs.Ytheekcjpphcihaa
open Go.RowKit

/-- What Notes answers. -/
def RNAll (S : List Nt × Nat × Nat) (w : World) (e : Ending) (w' : World) : Prop :=
  (S.2.1 = 0 ∧ ∃ A c, e = .returned (.tuple #[.slice A S.1.length c, .int .i64 0, .int .i64 0]) ∧ ZN w' w'.heap.size A S.1.length c S.1 ∧ Grow w w') ∨
  (S.2.1 ≠ 0 ∧ e = .returned (.tuple #[.slice none 0 0, .int .i64 (S.2.1 : Int), .int .i64 (S.2.2 : Int)]) ∧ Grow w w')

set_option maxRecDepth 100000 in
set_option maxHeartbeats 4000000 in
theorem rAllN_any (A : Option Addr) (n c : Nat) (l : List UInt8) (wide big : Bool) (w : World) (h : RB w w.heap.size A n c l) (h10 : l.length ≤ 100000) :
    Calls Try.prog 8 #[.slice A n c, .agg #[.bool wide, .bool big]] w (RNAll (ntRest l big 0) w) := by
  have HR := Lib.hid h
  have hl := h.len
  have hcp := h.cap
  have hmx := h.max
  unfold maxLen at hmx
  have elem8 : Try.prog.elem 25 = 5 := by kernel_rfl
  have ht8 : Try.prog.underlying 25 = some (.slice (Try.prog.elem 25)) := by rw [elem8]; exact Try.underlying25
  have hz8 : ∀ W, (sizeOf (Try.prog.elem 25)).run Try.prog W = .ok 1 W := fun W => by rw [elem8]; kernel_rfl
  have HCut : Hid (∀ (a : Addr) (p m : Nat), p + m ≤ n → A = some a → ∃ (a1 : Addr) (c1 : Nat), (∀ W, (Instr.slice 25 (.slice A n c) (some (.int .i64 (p : Int))) (some (.int .i64 ((p + m : Nat) : Int))) none).run Try.prog W = .ok (.slice (some a1) m c1) W) ∧
      RB w w.heap.size (some a1) m c1 ((l.drop p).take m)) := Lib.hid fun a p m hq hA => by
    subst hA
    have hc := h.cut (p := p) (m := m) hq
    have hr := run_cut_lh (P := Try.prog) 25 ht8 hz8 a n c .i64 .i64 p (p + m) (by omega) (by omega)
    rw [Nat.add_sub_cancel_left] at hr
    exact ⟨_, _, hr, hc⟩
  have HNu : Hid (∀ (q : Nat) (W : World) (g : Nat), q ≤ n → RB W W.heap.size A n c l → Blk W g 3 #[.int .i64 4, .int .i64 4, .int .i64 4] →
      Calls Try.prog 14 #[.slice A n c, .int .u64 q, .slice (some ⟨g, 0, none⟩) 3 3, .bool big] W fun e w' =>
      (q + 12 ≤ n ∧ ∃ A2 c2, e = .returned (.tuple #[.slice A2 3 c2, .bool true]) ∧ ON w' W.heap.size 51 .u64 A2 3 c2 [ntG (l.drop q) big 0, ntG (l.drop q) big 4, ntG (l.drop q) big 8] ∧ Grow W w') ∨
      (n < q + 12 ∧ e = .returned (.tuple #[.slice none 0 0, .bool false]) ∧ Grow W w')) := Lib.hid fun q W g hq hr hb => by
    have hns : NS W W.heap.size .i64 (some ⟨g, 0, none⟩) 3 3 ntRow := NS.of_blkN hb rfl (by decide) hb.lt rfl
    refine (numbersRef_any A n c l q _ 3 3 ntRow big W hr hns (by omega) ?_ (by show 0 < 3; decide) (by show 3 ≤ 100; decide)).mono fun e w' he => ?_
    · intro k hk
      match k, hk with
      | 0, _ => rfl
      | 1, _ => rfl
      | 2, _ => rfl
    · rw [Numbed, nums_nt, ← hl] at he
      exact he
  have HSt : Hid (∀ q, (n ≤ q → ntRest l big q = ([], 0, 0)) ∧ (q < n → n < q + ntE (l.drop q) big → ntRest l big q = ([], 2, q)) ∧
      (q < n → q + ntE (l.drop q) big ≤ n → (ntZ (l.drop q) big = false → ntRest l big q = ([], 4, q)) ∧
        (ntZ (l.drop q) big = true → ntRest l big q = (ntOf (l.drop q) big :: (ntRest l big (q + ntE (l.drop q) big)).1, (ntRest l big (q + ntE (l.drop q) big)).2)))) := Lib.hid fun q => by
    obtain ⟨s1, s2, s3⟩ := nt_step l big q
    rw [← hl] at s1 s2 s3
    have hd : (l.drop q).length = n - q := by rw [List.length_drop, ← hl]
    refine ⟨s1, fun hq hE => ?_, fun hq hE => ⟨fun hz => ?_, fun hz => ?_⟩⟩
    · rcases ntBad_cases (l.drop q) big with ⟨-, hb⟩ | ⟨h4, -⟩ | ⟨h4, -⟩
      · rw [s2 hq (by omega), hb]
      · omega
      · omega
    · rcases ntBad_cases (l.drop q) big with ⟨h4, hb⟩ | ⟨h4, -, hb⟩ | ⟨h4, h5, hb⟩
      · omega
      · rw [s2 hq (by omega), hb]
      · rw [hz] at h5; cases h5
    · rcases ntBad_cases (l.drop q) big with ⟨h4, hb⟩ | ⟨h4, h5, hb⟩ | ⟨h4, h5, hb⟩
      · omega
      · rw [hz] at h5; cases h5
      · exact s3 hq hb
  have HZ := Lib.hid (ntZ_iff l big)
  have HPt := Lib.hid (ntOf_parts l big)
  have HTy : Hid (∀ q, (ntOf (l.drop q) big).typ = ntG (l.drop q) big 8) := Lib.hid fun q => rfl
  have HLt : Hid (∀ q p, ntG (l.drop q) big p < 4294967296) := Lib.hid fun q p => ntG_lt _ _ _
  have HFl : Hid (∀ q, ntM (l.drop q) big = 12 + fil (ntG (l.drop q) big 0) ∧ ntE (l.drop q) big = ntM (l.drop q) big + fil (ntG (l.drop q) big 4)) := Lib.hid fun q => ⟨rfl, rfl⟩
  rw [← hl] at h10
  have HLl := Lib.hid hl
  generalize hS : ntRest l big 0 = S
  have HSe := Lib.hid hS
  generalize ntRest l big = N at HSt HSe
  unfold RNAll
  clear h hl elem8 ht8 hz8 hS
  go_enter Try.func8, Try.ntmps8
  go_wp2_with fail
  generalize hW : World.alloc _ _ = W0
  obtain ⟨bf, hg0⟩ := blk1 hW
  have HBF0 := Lib.hid bf
  have HG0 := Lib.hid hg0
  clear hW bf hg0
  go_loopw [7, 8] (fun x i wr => ∃ (q : Nat) (T : List Nt) (R : List (Array Value)) (A2 : Option Addr) (c2 : Nat), q ≤ n ∧ T.length * 12 ≤ q ∧ S = (T ++ (N q).1, (N q).2) ∧ i = .int .i64 q ∧ x = .slice A2 T.length c2 ∧
    ZO wr (w.heap.size + 1) 41 3 A2 T.length c2 R ∧ NtOs wr (w.heap.size + 1) 5 R T ∧ Blk wr w.heap.size 24 #[.bool wide, .bool big] ∧ Grow w wr) (fun _ i _ => n - (intOf i).toNat)
  case atStart => exact ⟨0, [], [], none, 0, Nat.zero_le _, by simp, by rw [HSe.out]; simp, rfl, rfl, ZO.nil, NtOs.nil, HBF0.out, HG0.out⟩
  case round =>
    obtain ⟨q, T, R, A2, c2, hq, hT, hSq, rfl, rfl, ho, ht, hbf, hg⟩ := hrel
    have HO := Lib.hid ho
    have HT := Lib.hid ht
    have HBF := Lib.hid hbf
    have HG := Lib.hid hg
    have HSq := Lib.hid hSq
    obtain ⟨k, hk⟩ : ∃ k, k = T.length := ⟨_, rfl⟩
    have HKe := Lib.hid hk
    rw [← hk] at HO hT
    rw [← hk]
    clear ho ht hbf hg hSq hk HBF0 HG0
    by_cases hlt : q < n
    · obtain ⟨b, off, hA, hbB, hbytes⟩ := HR.out.pos (by omega)
      subst hA
      have HbB := Lib.hid hbB
      have HBy := Lib.hid hbytes
      clear hbB hbytes
      obtain ⟨-, hst2, hst3⟩ := HSt.out q
      have HS2 := Lib.hid (hst2 hlt)
      have HS3 := Lib.hid (hst3 hlt)
      obtain ⟨hp1, hp2⟩ := HPt.out q
      have HP1 := Lib.hid hp1
      have HP2 := Lib.hid hp2
      have HP3 := Lib.hid (HTy.out q)
      have HZq := Lib.hid (HZ.out q)
      obtain ⟨hM, hE⟩ := HFl.out q
      have l0 := HLt.out q 0
      have l4 := HLt.out q 4
      have l8 := HLt.out q 8
      have HNq := Lib.hid (HNu.out q)
      generalize ntOf (l.drop q) big = s at HS3 HP1 HP2 HP3
      generalize ntZ (l.drop q) big = Z at HS3 HZq
      generalize ntE (l.drop q) big = E at HS2 HS3 HZq hE
      generalize ntM (l.drop q) big = M at HZq hM hE HP2
      generalize ntG (l.drop q) big 0 = x0 at HNq hM HZq HP1 l0
      generalize ntG (l.drop q) big 4 = x4 at HNq hE HZq HP2 l4
      generalize ntG (l.drop q) big 8 = x8 at HNq HP3 l8
      have hf0 := fil_ge x0
      have hf4 := fil_ge x4
      have g0 := fil_le x0
      have g4 := fil_le x4
      have HF0 := Lib.hid (fun w => upRef_any x0 (by omega) w)
      have HF4 := Lib.hid (fun w => upRef_any x4 (by omega) w)
      generalize fil x0 = f0 at hM hf0 g0 HF0
      generalize fil x4 = f4 at hE hf4 g4 HF4
      have z2 : IntKind.u64.wrap (q : Int) = (q : Int) := by rw [IntKind.wrap_u64]; omega
      clear hp1 hp2 hst2 hst3
      obtain ⟨y0, y1⟩ := (HBF.out.alloc (.cells #[.int .i64 4, .int .i64 4, .int .i64 4] 3)).c2
      have HME : Hid (M = 12 + f0 ∧ E = M + f4 ∧ x0 ≤ f0 ∧ x4 ≤ f4 ∧ f0 ≤ 4294967299 ∧ f4 ≤ 4294967299) := Lib.hid (by omega)
      have HL8 := Lib.hid l8
      clear hM hE hf0 hf4 g0 g4 l0 l4 l8
      go_wp2_with fail
      clear y0 y1 z2
      have HN3 := Lib.hid (Blk.new wr 3 #[.int .i64 4, .int .i64 4, .int .i64 4])
      have HB3 := Lib.hid (HBF.out.alloc (.cells #[.int .i64 4, .int .i64 4, .int .i64 4] 3))
      have HO3 := Lib.hid (HO.out.keep (Grow.of_alloc wr (.cells #[.int .i64 4, .int .i64 4, .int .i64 4] 3)))
      have HT3 := Lib.hid (HT.out.keep (Grow.of_alloc wr (.cells #[.int .i64 4, .int .i64 4, .int .i64 4] 3)))
      have HG3 : Hid (Grow w (wr.alloc (.cells #[.int .i64 4, .int .i64 4, .int .i64 4] 3))) := HG.out.trans (Grow.of_alloc _ _)
      generalize wr.alloc _ = w3 at HN3 HB3 HO3 HT3 HG3 ⊢
      generalize wr.heap.size = g3 at HN3 ⊢
      clear HO HBF HG HT
      refine (HNq.out w3 g3 hq (HR.out.grow HG3.out) HN3.out).mono ?_
      rintro e w5 (⟨hin, A4, c4, rfl, ho5, hg5⟩ | ⟨hbad, rfl, hg5⟩)
      case' inr =>
        have HG5 : Hid (Grow w w5) := HG3.out.trans hg5
        have HSe2 : Hid (S.2 = (2, q)) := Lib.hid (by rw [HSq.out, HS2.out (by have := HME.out; omega)])
        clear hbad hg5 HG3 HB3 HO3 HN3 HT3
        go_wp2
        go_ret3
        exact .inr ⟨by rw [HSe2.out]; exact Nat.succ_ne_zero 1, by rw [HSe2.out]; rfl, HG5.out⟩
      obtain ⟨gn, cs, rfl, hle4, hbn, hc4, hcells⟩ := ho5.at3
      have HCells := Lib.hid hcells
      have HBN := Lib.hid hbn
      have HNe : Hid (own A2 ≠ some gn) := Lib.hid (HO3.out.ne (.inr hle4))
      have HB5 := Lib.hid (HB3.out.grow hg5)
      have HO5 := Lib.hid (HO3.out.keep hg5)
      have HT5 := Lib.hid (HT3.out.keep hg5)
      have HG5 : Hid (Grow w w5) := HG3.out.trans hg5
      clear hle4 hbn hcells hg5 ho5 HN3 HB3 HO3 HG3 HT3 HNq
      obtain ⟨y0, y1, y2⟩ := HCells.out w5 HBN.out
      go_wp2_with fail
      refine (HF0.out _).mono ?_
      rintro e w' ⟨rfl, rfl⟩
      go_wp2_with fail
      refine (HF4.out _).mono ?_
      rintro e w' ⟨rfl, rfl⟩
      clear HF0 HF4
      obtain ⟨hM, hE, hx0, hx4, hf0, hf4⟩ := HME.out
      by_cases hfar : n < q + E
      · have HSe2 : Hid (S.2 = (2, q)) := Lib.hid (by rw [HSq.out, HS2.out hfar])
        go_wp2
        go_ret3
        exact .inr ⟨by rw [HSe2.out]; exact Nat.succ_ne_zero 1, by rw [HSe2.out]; rfl, HG5.out⟩
      have hnear : q + E ≤ n := by omega
      go_wp2_with fail
      obtain ⟨P, hP⟩ : ∃ P, P = q + 12 := ⟨_, rfl⟩
      obtain ⟨Qd, hQ⟩ : ∃ Qd, Qd = q + M := ⟨_, rfl⟩
      obtain ⟨E2, hE2⟩ : ∃ E2, E2 = q + E := ⟨_, rfl⟩
      obtain ⟨I0, hI⟩ : ∃ I0, I0 = q + 12 + x0 := ⟨_, rfl⟩
      have eP : (q : Int) + 12 = (P : Int) := by omega
      have eQ : (P : Int) + (f0 : Int) = (Qd : Int) := by omega
      have eE : (Qd : Int) + (f4 : Int) = (E2 : Int) := by omega
      have eI : (P : Int) + (x0 : Int) = (I0 : Int) := by omega
      simp only [eP, eQ, eE, eI]
      have HZq2 : Hid (Z = true ↔ ∀ m (h : m < l.length), I0 ≤ m → m < E2 → (m < Qd ∨ Qd + x4 ≤ m) → l[m] = 0) := by rw [hI, hE2, hQ]; exact HZq
      have HA : Hid (P = q + 12 ∧ Qd = q + M ∧ E2 = q + E ∧ I0 = P + x0 ∧ M = 12 + f0 ∧ E = M + f4) := Lib.hid (by omega)
      have hIQ : I0 ≤ Qd ∧ Qd + x4 ≤ E2 ∧ E2 ≤ n := by omega
      clear HZq eP eQ eE eI hP hQ hE2 hI hM hE hx0 hx4 hf0 hf4 hfar
      obtain ⟨hIQ1, hIQ2, hIQ3⟩ := hIQ
      go_loop [16] (fun i => ∃ j : Nat, I0 ≤ j ∧ j ≤ E2 ∧ i = .int .i64 j ∧ Hid (∀ m (h : m < l.length), I0 ≤ m → m < j → (m < Qd ∨ Qd + x4 ≤ m) → l[m] = 0)) (fun i => E2 - (intOf i).toNat)
      case atStart => exact ⟨I0, Nat.le_refl _, by omega, rfl, Lib.hid (fun m _ h1 h2 => absurd h2 (by omega))⟩
      case round =>
        obtain ⟨j, hj1, hj2, rfl, HK⟩ := hrel
        by_cases hjE : j < E2
        · have hjl : j < l.length := by rw [← HLl.out]; omega
          have yb : w5.cell? ⟨b, off + j, none⟩ = some (.int .u8 (l[j].toNat : Int)) := by rw [HG5.out.cell HbB.out]; exact HBy.out j hjl
          obtain ⟨v, hv⟩ : ∃ v, l[j] = v := ⟨_, rfl⟩
          rw [hv] at yb
          have HV := Lib.hid hv
          clear hv
          by_cases c1 : j < Qd
          · by_cases v0 : v = 0
            · subst v0
              go_wp2
              go_round
              case rel => 
                refine ⟨j + 1, by omega, by omega, by go_num, Lib.hid fun m hm h1 h2 h3 => ?_⟩
                by_cases e : m < j
                · exact HK.out m hm h1 e h3
                · have : m = j := by omega
                  subst this
                  exact HV.out
              case measure => simp [intOf]; omega
            · have d1 : ((v.toNat : Int) != 0) = true := by
                have : v.toNat ≠ 0 := fun e => v0 (by apply UInt8.toNat_inj.1; simpa using e)
                simp; omega
              have HZf : Hid (Z = false) := Lib.hid (by
                cases hZ : Z
                · rfl
                · exact absurd (HV.out.symm.trans (HZq2.out.1 hZ j hjl (by omega) (by omega) (by omega))) v0)
              have HSe2 : Hid (S.2 = (4, q)) := Lib.hid (by rw [HSq.out, (HS3.out hnear).1 HZf.out])
              go_wp2
              go_ret3
              exact .inr ⟨by rw [HSe2.out]; exact Nat.succ_ne_zero 3, by rw [HSe2.out]; rfl, HG5.out⟩
          · by_cases c2 : Qd + x4 ≤ j
            · by_cases v0 : v = 0
              · subst v0
                go_wp2
                go_round
                case rel => 
                  refine ⟨j + 1, by omega, by omega, by go_num, Lib.hid fun m hm h1 h2 h3 => ?_⟩
                  by_cases e : m < j
                  · exact HK.out m hm h1 e h3
                  · have : m = j := by omega
                    subst this
                    exact HV.out
                case measure => simp [intOf]; omega
              · have d1 : ((v.toNat : Int) != 0) = true := by
                  have : v.toNat ≠ 0 := fun e => v0 (by apply UInt8.toNat_inj.1; simpa using e)
                  simp; omega
                have HZf : Hid (Z = false) := Lib.hid (by
                  cases hZ : Z
                  · rfl
                  · exact absurd (HV.out.symm.trans (HZq2.out.1 hZ j hjl (by omega) (by omega) (by omega))) v0)
                have HSe2 : Hid (S.2 = (4, q)) := Lib.hid (by rw [HSq.out, (HS3.out hnear).1 HZf.out])
                go_wp2
                go_ret3
                exact .inr ⟨by rw [HSe2.out]; exact Nat.succ_ne_zero 3, by rw [HSe2.out]; rfl, HG5.out⟩
            · go_wp2
              go_round
              case rel => 
                refine ⟨j + 1, by omega, by omega, by go_num, Lib.hid fun m hm h1 h2 h3 => ?_⟩
                by_cases e : m < j
                · exact HK.out m hm h1 e h3
                · have : m = j := by omega
                  subst this
                  omega
              case measure => simp [intOf]; omega
        · obtain rfl : j = E2 := by omega
          have HZt : Hid (Z = true) := Lib.hid (HZq2.out.2 HK.out)
          have HS4 : Hid (N q = (s :: (N (q + E)).1, (N (q + E)).2)) := Lib.hid ((HS3.out hnear).2 HZt.out)
          clear HS3 HZq2 HK HS2 hjE hj2
          go_wp2_with fail
          obtain ⟨a1, c1, hc1, hr1⟩ := HCut.out _ P x0 (by have := HA.out; omega) rfl
          obtain ⟨a2, c2', hc2, hr2⟩ := HCut.out _ Qd x4 (by have := HA.out; omega) rfl
          obtain ⟨I1, hI1⟩ : ∃ I1, I1 = Qd + x4 := ⟨_, rfl⟩
          rw [← HA.out.2.2.2.1] at hc1
          rw [← hI1] at hc2
          have HRN := Lib.hid hr1
          have HRD := Lib.hid hr2
          have HC1 := Lib.hid hc1
          have HC2 := Lib.hid hc2
          have HS5 : Hid (S = ((T ++ [s]) ++ (N j).1, (N j).2)) := Lib.hid (by rw [HSq.out, HS4.out, HA.out.2.2.1]; simp)
          have hEq : q + 12 ≤ j := by have := HA.out; omega
          have HA2 : Hid (x0 ≤ 100000 ∧ x4 ≤ 100000) := Lib.hid (by have := HA.out; omega)
          have zx0 : IntKind.i64.wrap (x0 : Int) = (x0 : Int) := by have := HA2.out; rw [IntKind.wrap_i64]; omega
          have zx4 : IntKind.i64.wrap (x4 : Int) = (x4 : Int) := by have := HA2.out; rw [IntKind.wrap_i64]; omega
          have zx8 : IntKind.u32.wrap (x8 : Int) = (x8 : Int) := by have := HL8.out; rw [IntKind.wrap_u32]; omega
          have zI0 : IntKind.i64.wrap ((P : Int) + (x0 : Int)) = (I0 : Int) := by have := HA.out; rw [IntKind.wrap_i64]; omega
          have zI1 : IntKind.i64.wrap ((Qd : Int) + (x4 : Int)) = (I1 : Int) := by have := HA.out; rw [IntKind.wrap_i64]; omega
          have HIQ3 : Hid (j ≤ n) := Lib.hid hIQ3
          replace HP1 : Hid (s.name = (l.drop P).take x0) := Lib.hid (by rw [HP1.out, HA.out.1])
          replace HP2 : Hid (s.desc = (l.drop Qd).take x4) := Lib.hid (by rw [HP2.out, HA.out.2.1])
          have HBg : Hid (gn < w5.drew.heap.size) := Lib.hid HBN.out.lt
          clear hIQ1 hIQ2 hIQ3 hI1 hj1 hnear hin hc1 hc2 hr1 hr2 HS4 HSq HA HL8 y0 y1 y2 HCut HNu HSt HZ HPt HTy HLt HFl HBy
          refine wp_region_tree (leap_kept (fun j => j = gn)) (.chain [(0, true), (2, true), (3, true), (4, true), (5, true), (6, true), (7, true), (8, true), (9, true), (10, true), (13, true), (14, true), (15, true), (16, true), (17, true), (18, true), (19, true), (20, true), (21, true), (23, true), (24, true), (25, true), (26, true)] (.both 1 (.both 11 (.chain [(12, false), (22, false), (27, true), (28, false), (29, false), (30, true)] .done) 12 (.chain [(11, false), (22, false), (27, true), (28, false), (29, false), (30, true)] .done)) 12 (.chain [(1, false), (11, false), (22, false), (27, true), (28, false), (29, false), (30, true)] .done))) (by kernel_rfl) (by kernel_rfl) (by kernel_rfl) ?_
          refine tr_chain ?_
          have HX : Hid (∀ W, Kept (fun j => j = gn) w5.drew W → _ ∧ _) := fun W hW => HCells.out W ((HBN.out.drew).kept hW rfl)
          have HB6 := Lib.hid HB5.out.drew
          have HO6 : Hid (ZO w5.drew _ _ _ _ _ _ _) := HO5.out
          have HT6 : Hid (NtOs w5.drew _ _ _ _) := HT5.out
          have HG6 : Hid (Grow w w5.drew) := HG5.out.trans (Grow.of_drew _)
          generalize w5.drew = w6 at HX HB6 HO6 HT6 HG6 HBg ⊢
          clear HB5 HO5 HG5 HT5 HBN HCells
          repeat (refine chain_take rfl (by rfl) ?_ (fun W hG => ?_) ?_; rotate_left; (obtain ⟨q1, q2, q3⟩ := HX.out W hG; have q4 := HC1.out W; have q5 := HC2.out W; go_simp; rfl); simp only [Act.put, List.setIfInBounds_toArray, List.set_cons_zero, List.set_cons_succ])
          clear HX HC1 HC2 zx0 zx4 zx8 zI0 zI1
          refine chain_done (tr_both (step_op rfl (by rfl) ?A) (step_op rfl (by rfl) ?B))
          case' A =>
            intro K hK
            have H6 : Hid (Grow w6 w6) := Lib.hid (Grow.refl _)
            go_simp
            refine hK _ _ (Kept.of_grow (Grow.of_alloc _ _)) ?_
            clear hK K
            have HE17 := Lib.hid (Blk.new w6 5 #[])
            have H7 : Hid (Grow w6 (w6.alloc (.cells #[] 5))) := H6.out.trans (Grow.of_alloc _ _)
            have HGe1 : Hid (w6.heap.size ≤ w6.heap.size) := Lib.hid H6.out.size
            generalize w6.alloc _ = w7 at HE17 H7 ⊢
            obtain ⟨g1, hg⟩ : ∃ g, g = w6.heap.size := ⟨_, rfl⟩
            rw [← hg] at HE17
            rw [← hg]
            replace HGe1 : Hid (w6.heap.size ≤ g1) := Lib.hid (Nat.le_of_eq hg.symm)
            clear hg
            refine tr_both (step_op rfl (by rfl) ?A1) (step_op rfl (by rfl) ?A2)
            case' A1 =>
              intro K hK
              refine wp_appendE w7 (.tmp 96) (.tmp 105) 25 rfl w6.heap.size 5 Try.underlying25 (by kernel_rfl) g1 rfl HE17.out HGe1.out w.heap.size (some a1) x0 c1 _ rfl (HRN.out.belowAt (HG6.out.trans H7.out) (Nat.le_refl _)) (by have := HA2.out; omega) H7.out.size ?_
              intro A7 c7 w8 ho hb hbar hown
              refine hK _ _ ⟨hb.size, fun j hj hj2 => by subst hj2; exact hbar.2 _ hj (by have := HBg.out; have := HGe1.out; omega)⟩ ?_
              clear hK K
              have HN8 := Lib.hid ho
              have H8 : Hid (Grow w6 w8) := H7.out.trans' hb
              clear ho hb hbar hown HE17 H7 HGe1
              refine tr_chain ?_
              refine chain_only rfl (by rfl) (fun K hK => ?_)
              go_simp
              refine hK _ _ (Kept.of_grow (Grow.of_alloc _ _)) ?_
              clear hK K
              have HE29 := Lib.hid (Blk.new w8 5 #[])
              have H9 : Hid (Grow w6 (w8.alloc (.cells #[] 5))) := H8.out.trans (Grow.of_alloc _ _)
              have HGe2 : Hid (w6.heap.size ≤ w8.heap.size) := Lib.hid H8.out.size
              have HN9 := Lib.hid (HN8.out.keep (Grow.of_alloc w8 (.cells #[] 5)))
              have HNo : Hid (own A7 ≠ some w8.heap.size) := Lib.hid (HN8.out.ne (.inr (Nat.le_refl _)))
              generalize w8.alloc _ = w9 at HE29 H9 HN9 ⊢
              generalize w8.heap.size = g2 at HE29 HGe2 HNo ⊢
              clear HN8 H8
              refine chain_only rfl (by rfl) (fun K hK => ?_)
              refine wp_appendE w9 (.tmp 107) (.tmp 116) 25 rfl w6.heap.size 5 Try.underlying25 (by kernel_rfl) g2 rfl HE29.out HGe2.out w.heap.size (some a2) x4 c2' _ rfl (HRD.out.belowAt (HG6.out.trans H9.out) (Nat.le_refl _)) (by have := HA2.out; omega) H9.out.size ?_
              intro A9 c9 w10 ho hb hbar hown
              refine hK _ _ ⟨hb.size, fun j hj hj2 => by subst hj2; exact hbar.2 _ hj (by have := HBg.out; have := HGe2.out; omega)⟩ ?_
              clear hK K
              have HD10 := Lib.hid ho
              have H10 : Hid (Grow w6 w10) := H9.out.trans' hb
              have HN10 := Lib.hid (HN9.out.bar hbar HNo.out)
              clear ho hb hbar hown HE29 H9 HGe2 HN9 HNo
            case' A2 =>
              intro K hK
              go_simp
              refine hK _ _ (Kept.of_grow (Grow.of_alloc _ _)) ?_
              clear hK K
              have HE28 := Lib.hid (Blk.new w7 5 #[])
              have H8 : Hid (Grow w6 (w7.alloc (.cells #[] 5))) := H7.out.trans (Grow.of_alloc _ _)
              have HGe2 : Hid (w6.heap.size ≤ w7.heap.size) := Lib.hid H7.out.size
              have HE18 := Lib.hid (HE17.out.alloc (.cells #[] 5))
              have HNe12 : Hid (g1 ≠ w7.heap.size) := Lib.hid (Nat.ne_of_lt HE17.out.lt)
              generalize w7.alloc _ = w8 at HE28 H8 HE18 ⊢
              generalize w7.heap.size = g2 at HE28 HGe2 HNe12 ⊢
              clear HE17 H7
              refine tr_chain ?_
              refine chain_only rfl (by rfl) (fun K hK => ?_)
              refine wp_appendE w8 (.tmp 96) (.tmp 105) 25 rfl w6.heap.size 5 Try.underlying25 (by kernel_rfl) g1 rfl HE18.out HGe1.out w.heap.size (some a1) x0 c1 _ rfl (HRN.out.belowAt (HG6.out.trans H8.out) (Nat.le_refl _)) (by have := HA2.out; omega) H8.out.size ?_
              intro A7 c7 w9 ho hb hbar hown
              refine hK _ _ ⟨hb.size, fun j hj hj2 => by subst hj2; exact hbar.2 _ hj (by have := HBg.out; have := HGe1.out; omega)⟩ ?_
              clear hK K
              have HN9 := Lib.hid ho
              have H9 : Hid (Grow w6 w9) := H8.out.trans' hb
              have HE29 := Lib.hid (HE28.out.bar hbar (by first | exact HNe12.out | exact Ne.symm HNe12.out))
              have HNo : Hid (own A7 ≠ some g2) := Lib.hid (by
                have hlt := HE28.out.lt
                rcases hown with h | h
                · rw [h]; exact fun e => by
                    have := HNe12.out
                    exact absurd (Option.some.inj e) (by first | exact this | exact Ne.symm this)
                · rw [h]; exact fun e => by
                    have := Option.some.inj e
                    omega)
              clear ho hb hbar hown HE18 H8 HGe1 HE28 HNe12
              refine chain_only rfl (by rfl) (fun K hK => ?_)
              refine wp_appendE w9 (.tmp 107) (.tmp 116) 25 rfl w6.heap.size 5 Try.underlying25 (by kernel_rfl) g2 rfl HE29.out HGe2.out w.heap.size (some a2) x4 c2' _ rfl (HRD.out.belowAt (HG6.out.trans H9.out) (Nat.le_refl _)) (by have := HA2.out; omega) H9.out.size ?_
              intro A9 c9 w10 ho hb hbar hown
              refine hK _ _ ⟨hb.size, fun j hj hj2 => by subst hj2; exact hbar.2 _ hj (by have := HBg.out; have := HGe2.out; omega)⟩ ?_
              clear hK K
              have HD10 := Lib.hid ho
              have H10 : Hid (Grow w6 w10) := H9.out.trans' hb
              have HN10 := Lib.hid (HN9.out.bar hbar HNo.out)
              clear ho hb hbar hown HE29 H9 HGe2 HN9 HNo
          case' B =>
            intro K hK
            have H6 : Hid (Grow w6 w6) := Lib.hid (Grow.refl _)
            go_simp
            refine hK _ _ (Kept.of_grow (Grow.of_alloc _ _)) ?_
            clear hK K
            have HE27 := Lib.hid (Blk.new w6 5 #[])
            have H7 : Hid (Grow w6 (w6.alloc (.cells #[] 5))) := H6.out.trans (Grow.of_alloc _ _)
            have HGe2 : Hid (w6.heap.size ≤ w6.heap.size) := Lib.hid H6.out.size
            generalize w6.alloc _ = w7 at HE27 H7 ⊢
            obtain ⟨g2, hg⟩ : ∃ g, g = w6.heap.size := ⟨_, rfl⟩
            rw [← hg] at HE27
            rw [← hg]
            replace HGe2 : Hid (w6.heap.size ≤ g2) := Lib.hid (Nat.le_of_eq hg.symm)
            clear hg
            refine tr_chain ?_
            refine chain_only rfl (by rfl) (fun K hK => ?_)
            go_simp
            refine hK _ _ (Kept.of_grow (Grow.of_alloc _ _)) ?_
            clear hK K
            have HE18 := Lib.hid (Blk.new w7 5 #[])
            have H8 : Hid (Grow w6 (w7.alloc (.cells #[] 5))) := H7.out.trans (Grow.of_alloc _ _)
            have HGe1 : Hid (w6.heap.size ≤ w7.heap.size) := Lib.hid H7.out.size
            have HE28 := Lib.hid (HE27.out.alloc (.cells #[] 5))
            have HNe12 : Hid (g2 ≠ w7.heap.size) := Lib.hid (Nat.ne_of_lt HE27.out.lt)
            generalize w7.alloc _ = w8 at HE18 H8 HE28 ⊢
            generalize w7.heap.size = g1 at HE18 HGe1 HNe12 ⊢
            clear HE27 H7
            refine chain_only rfl (by rfl) (fun K hK => ?_)
            refine wp_appendE w8 (.tmp 96) (.tmp 105) 25 rfl w6.heap.size 5 Try.underlying25 (by kernel_rfl) g1 rfl HE18.out HGe1.out w.heap.size (some a1) x0 c1 _ rfl (HRN.out.belowAt (HG6.out.trans H8.out) (Nat.le_refl _)) (by have := HA2.out; omega) H8.out.size ?_
            intro A7 c7 w9 ho hb hbar hown
            refine hK _ _ ⟨hb.size, fun j hj hj2 => by subst hj2; exact hbar.2 _ hj (by have := HBg.out; have := HGe1.out; omega)⟩ ?_
            clear hK K
            have HN9 := Lib.hid ho
            have H9 : Hid (Grow w6 w9) := H8.out.trans' hb
            have HE29 := Lib.hid (HE28.out.bar hbar (by first | exact HNe12.out | exact Ne.symm HNe12.out))
            have HNo : Hid (own A7 ≠ some g2) := Lib.hid (by
              have hlt := HE28.out.lt
              rcases hown with h | h
              · rw [h]; exact fun e => by
                  have := HNe12.out
                  exact absurd (Option.some.inj e) (by first | exact this | exact Ne.symm this)
              · rw [h]; exact fun e => by
                  have := Option.some.inj e
                  omega)
            clear ho hb hbar hown HE18 H8 HGe1 HE28 HNe12
            refine chain_only rfl (by rfl) (fun K hK => ?_)
            refine wp_appendE w9 (.tmp 107) (.tmp 116) 25 rfl w6.heap.size 5 Try.underlying25 (by kernel_rfl) g2 rfl HE29.out HGe2.out w.heap.size (some a2) x4 c2' _ rfl (HRD.out.belowAt (HG6.out.trans H9.out) (Nat.le_refl _)) (by have := HA2.out; omega) H9.out.size ?_
            intro A9 c9 w10 ho hb hbar hown
            refine hK _ _ ⟨hb.size, fun j hj hj2 => by subst hj2; exact hbar.2 _ hj (by have := HBg.out; have := HGe2.out; omega)⟩ ?_
            clear hK K
            have HD10 := Lib.hid ho
            have H10 : Hid (Grow w6 w10) := H9.out.trans' hb
            have HN10 := Lib.hid (HN9.out.bar hbar HNo.out)
            clear ho hb hbar hown HE29 H9 HGe2 HN9 HNo
          all_goals
            repeat (refine chain_take rfl (by rfl) ?_ (fun W hG => ?_) ?_; rotate_left; (go_simp; rfl); simp only [Act.put, List.setIfInBounds_toArray, List.set_cons_zero, List.set_cons_succ])
            have HNt : Hid (NtO w10 (w.heap.size + 1) 5 #[.slice A7 x0 c7, .slice A9 x4 c9, .int .u32 (x8 : Int)] s) := Lib.hid ⟨A7, x0, c7, A9, x4, c9, by rw [HP3.out], by rw [HP1.out]; exact HN10.out.mono HB6.out.lt, by rw [HP2.out]; exact HD10.out.mono HB6.out.lt⟩
            have HB10 := Lib.hid (HB6.out.grow H10.out)
            have HO10 := Lib.hid (HO6.out.keep H10.out)
            have HT10 := Lib.hid (HT6.out.keep H10.out)
            have HG10 : Hid (Grow w w10) := HG6.out.trans H10.out
            clear HN10 HD10 HB6 HO6 HT6 HG6 H10 HBg HRN HRD
            refine chain_only rfl (by rfl) (fun K hK => ?_)
            go_simp
            refine hK _ _ (Kept.of_grow (Grow.of_alloc _ _)) ?_
            clear hK K
            have HC9 : Hid ((#[.slice A7 x0 c7, .slice A9 x4 c9, .int .u32 (x8 : Int)] : Array Value).all (·.oneCell') = true) := Lib.hid (by simp [Value.oneCell'])
            have hal : Below (w.heap.size + 1) w10 (w10.alloc (.cells #[.slice A7 x0 c7, .slice A9 x4 c9, .int .u32 (x8 : Int)] 41)) := Below.alloc (Below.refl _ _) HB10.out.lt _
            have HSz := Lib.hid (Nat.le_trans (show w.heap.size + 1 ≤ w10.heap.size from HB10.out.lt) hal.size)
            have HNu2 := Lib.hid (Blk.new w10 41 #[.slice A7 x0 c7, .slice A9 x4 c9, .int .u32 (x8 : Int)])
            have HOA := Lib.hid (HO10.out.keep (Grow.of_alloc w10 (.cells #[.slice A7 x0 c7, .slice A9 x4 c9, .int .u32 (x8 : Int)] 41)))
            have HTA := Lib.hid (HT10.out.keep (Grow.of_alloc w10 (.cells #[.slice A7 x0 c7, .slice A9 x4 c9, .int .u32 (x8 : Int)] 41)))
            have HNA := Lib.hid (HNt.out.keep (Grow.of_alloc w10 (.cells #[.slice A7 x0 c7, .slice A9 x4 c9, .int .u32 (x8 : Int)] 41)))
            have HLb := Lib.hid hal
            clear hal
            refine chain_only rfl (by rfl) (fun K hK => ?_)
            refine wp_appendZ (w10.alloc (.cells #[.slice A7 x0 c7, .slice A9 x4 c9, .int .u32 (x8 : Int)] 41)) (.tmp 95) (.tmp 123) 22 rfl (w.heap.size + 1) 41 (.agg #[.slice none 0 0, .slice none 0 0, .int .u32 0]) 3 56 Try.underlying22 (by kernel_rfl) rfl (by omega) A2 k c2 _ rfl HOA.out w10.heap.size _ #[.slice A7 x0 c7, .slice A9 x4 c9, .int .u32 (x8 : Int)] rfl HNu2.out rfl HC9.out (by unfold maxLen; omega) (by omega) HSz.out ?_
            intro A5 c5 w9 ho9 hg9 _
            refine hK _ _ ⟨hg9.size, fun j hj hj2 => by subst hj2; exact hg9.block _ hj (by first | exact HNe.out | exact Ne.symm HNe.out)⟩ ?_
            clear hK K
            have hb9 : Below (w.heap.size + 1) w10 w9 := HLb.out.trans ((Below.refl _ _).grown hg9 HSz.out (fun j hj => HO10.out.ge hj))
            have HB11 := Lib.hid (HB10.out.below hb9 (Nat.lt_succ_self _))
            have HG11 : Hid (Grow w w9) := HG10.out.trans' (hb9.mono (Nat.le_succ _))
            have HO11 := Lib.hid ho9
            have HT11 : Hid (NtOs w9 (w.heap.size + 1) 5 (R ++ [#[.slice A7 x0 c7, .slice A9 x4 c9, .int .u32 (x8 : Int)]]) (T ++ [s])) := Lib.hid ((HTA.out.past HOA.out (by decide) hg9).snoc (HNA.out.past HOA.out (by decide) hg9))
            clear ho9 hg9 hb9 HB10 HG10 HO10 HT10 HSz HNu2 HOA HTA HNA HNt HLb
            repeat (refine chain_take rfl (by rfl) ?_ (fun W hG => ?_) ?_; rotate_left; (go_simp; rfl); simp only [Act.put, List.setIfInBounds_toArray, List.set_cons_zero, List.set_cons_succ])
            refine chain_done (tr_done ?_)
            go_wp2
            go_roundw
            case rel =>
              have e : (T ++ [s]).length = k + 1 := by rw [HKe.out]; simp
              exact ⟨j, T ++ [s], _, A5, c5, HIQ3.out, by rw [e]; omega, HS5.out, rfl, by rw [e], by rw [e]; exact HO11.out, HT11.out, HB11.out, HG11.out⟩
            case measure => have := HIQ3.out; simp [intOf]; omega
    · have e : q = n := by omega
      have hSe : S = (T, 0, 0) := by
        rw [HSq.out, (HSt.out q).1 (by omega)]; simp
      have HZn := Lib.hid (HO.out.zn HT.out)
      have HSe2 := Lib.hid hSe
      clear HSt HSq hSe HNu HCut HZ HPt HTy HLt HFl
      go_wp2
      go_ret3
      exact .inl ⟨by rw [HSe2.out], A2, c2, by rw [HSe2.out, HKe.out]; rfl, by rw [HSe2.out]; have := HZn.out; rw [HKe.out] at this; exact this, HG.out⟩
end Go.Proofs.Ytheekcjpphcihaa
