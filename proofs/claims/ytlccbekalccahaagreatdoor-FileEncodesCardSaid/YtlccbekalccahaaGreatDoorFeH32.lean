/-
  Several texts in one: The contract of file; The contract of prog.
-/
import Derived.Test.YtlccbekalccahaaGreatDoorFeH31
import Derived.Test.YtlccbekalccahaaGreatDoorFeH29
import Derived.Lib.SmallJoins

namespace Go.Proofs.YtlccbekalccahaaGreatDoor
open Go.RowKit
set_option maxRecDepth 100000
set_option linter.unusedVariables false

/-- An error beside a store into a struct of the call's own that begins otherwise. -/
theorem Err.past {w : World} {v : Value} {c p g : Nat} {t : TypeId} {cs : Array Value} (h : Err w v c p) (hb : Blk w g t cs) (hne : ∀ k : Int, cs[0]? ≠ some (.int .i64 k)) (cs' : Array Value) : Err (w.setRow g cs') v c p := by
  rcases h with h | ⟨h0, b, h1, h2, h3, h4⟩
  · exact .inl h
  · have hbg : b ≠ g := fun e => by
      subst e
      rw [hb.at 0] at h3
      exact hne _ h3
    have key : ∀ o, (w.setRow g cs').cell? ⟨b, o, none⟩ = w.cell? ⟨b, o, none⟩ := fun o => by
      unfold World.cell?
      rw [setRow_other w g b cs' hbg]
    exact .inr ⟨h0, b, h1, by simpa using h2, by rw [key]; exact h3, by rw [key]; exact h4⟩
/-- What count answers. -/
def CntR (l : List UInt8) (w : World) (e : Ending) (w' : World) : Prop :=
  ∃ v x y z, e = .returned (.tuple #[.agg #[.int .u64 ((x : Nat) : Int), .int .u64 ((y : Nat) : Int), .int .u64 ((z : Nat) : Int)], v]) ∧ Err w' v (cntE l).1 (cntE l).2 ∧ ((cntE l).1 = 0 → x = nP l ∧ y = nS l ∧ z = nI l) ∧ Grow w w'
def CntR' (E : Nat × Nat) (P S I : Nat) (w : World) (e : Ending) (w' : World) : Prop :=
  ∃ v x y z, e = .returned (.tuple #[.agg #[.int .u64 ((x : Nat) : Int), .int .u64 ((y : Nat) : Int), .int .u64 ((z : Nat) : Int)], v]) ∧ Err w' v E.1 E.2 ∧ (E.1 = 0 → x = P ∧ y = S ∧ z = I) ∧ Grow w w'
theorem cnt_ret {K : Ending → World → Prop} {W : World} {tmps : Array Value} {g : Nat} {ev a b c : Value} (ht : tmps.getD 4 undef = .pointer (some ⟨g, 0, none⟩)) (he : tmps.getD 5 undef = ev)
    (hx : Blk W g 86 #[a, b, c]) (hk : K (.returned (.tuple #[.agg #[a, b, c], ev])) W) : bodyPost Tryz.prog Tryz.f26 K .ret ⟨tmps, []⟩ W := by
  refine bodyPost_ret (v := .tuple #[.agg #[a, b, c], ev]) ?_ rfl hk
  rw [results_cell_tmp rfl, ht, he]
  simp [asAddr, Result.andThen, hx.var _ _ Tryz.underlying86 rfl (by kernel_rfl)]
theorem err_of {w : World} {b c p : Nat} {v : Value} (h : Spt w v c p) (hc : 0 < c) : Err w v c p := h.err hc

set_option maxHeartbeats 8000000 in
theorem flCount_any (l : List UInt8) (A : Option Addr) (n c : Nat) (w : World) (hr : RB w w.heap.size A n c l) :
    Calls Tryz.prog 26 #[.slice A n c, (hdOf l).V] w (CntR l w) := by
  have hn := hr.len
  have hcp := hr.cap
  have hmx := hr.max
  have hnm : n ≤ maxLen := Nat.le_trans hcp hmx
  have hok := hdOf_ok l
  have fok : (fst_ l).Ok := by
    unfold fst_
    split
    · exact ⟨by decide, by decide, by decide, by decide, by decide, by decide, by decide, by decide, by decide, by decide⟩
    · exact scOf_ok _ _ _ _
  have HCo := Lib.hid (fun W => countsOf_any (hdOf l) hok (fst_ l) fok W)
  have HCs : Hid (∀ W, Calls Tryz.prog 67 #[.slice A n c, (hdOf l).V, .int .u64 (nS l : Nat)] W (ChkR (scE l) W)) := Lib.hid fun W => by
    have := checkSects_any (hdOf l) hok A n c (nS l) W hnm
    rwa [show scEf (hdOf l).wide (hdOf l).sh (nS l) n = scE l by rw [hn]; rfl] at this
  have HCp : Hid (∀ W, Calls Tryz.prog 68 #[.slice A n c, (hdOf l).V, .int .u64 (nP l : Nat)] W (ChkR (pgE l) W)) := Lib.hid fun W => by
    have := checkProgs_any (hdOf l) hok A n c (nP l) W hnm
    rwa [show pgEf (hdOf l).wide (hdOf l).pn (hdOf l).sh (hdOf l).ph (nP l) n = pgE l by rw [hn]; rfl] at this
  have HPl := Lib.hid (fun W => places_any (lWide l) (lBig l) W)
  have HGS : Hid (∀ W, Grow w W → Calls Tryz.prog 64 #[.slice A n c, .int .u64 ((hdOf l).sh : Nat), .agg #[.bool (lWide l), .bool (lBig l)]] W (SGot l (hdOf l).sh (lWide l) (lBig l) W)) := Lib.hid fun W hg => sGet_any A n c l (hdOf l).sh (lWide l) (lBig l) W (hr.grow hg) hok.sh
  have HE : Hid (cntE l = if (hdOf l).sh ≠ 0 ∧ ¬ (hdOf l).sh + sSize (lWide l) ≤ l.length then (5, oSh (lWide l)) else if (scE l).1 ≠ 0 then scE l else if (pgE l).1 ≠ 0 then pgE l else if (hdOf l).st = 65535 ∧ (hdOf l).sh = 0 then (4, oSt (lWide l)) else (0, 0)) := Lib.hid rfl
  have HF : Hid (fst_ l = if (hdOf l).sh = 0 then sc0 else scOf l (hdOf l).sh (lWide l) (lBig l)) := Lib.hid rfl
  have HNP : Hid ((if (hdOf l).pn = 65535 then (fst_ l).inf else (hdOf l).pn) = nP l) := Lib.hid rfl
  have HNS : Hid ((if (hdOf l).sn = 0 then (fst_ l).sz else (hdOf l).sn) = nS l) := Lib.hid rfl
  have HNI : Hid ((if (hdOf l).st = 65535 then (fst_ l).li else (hdOf l).st) = nI l) := Lib.hid rfl
  rw [HNP.out, HNS.out, HNI.out] at HCo
  show Calls _ _ _ _ (CntR' (cntE l) (nP l) (nS l) (nI l) w)
  clear HNP HNS HNI hr hmx hcp
  generalize nP l = P at HCo HCp ⊢
  generalize nS l = S at HCo HCs ⊢
  generalize nI l = I at HCo ⊢
  generalize cntE l = E at HE ⊢
  generalize scE l = ES at HCs HE
  generalize pgE l = EP at HCp HE
  obtain ⟨y2, y3, y4, y5, y6, y7, y9, y10, y11, hC⟩ : ∃ y2 y3 y4 y5 y6 y7 y9 y10 y11 : Value, (hdOf l).C = #[.bool (lWide l), .bool (lBig l), y2, y3, y4, y5, y6, y7, .int .u64 ((hdOf l).sh : Nat), y9, y10, y11, .int .u16 ((hdOf l).st : Nat)] := ⟨_, _, _, _, _, _, _, _, _, rfl⟩
  unfold Hd.V at HCo HCs HCp ⊢
  rw [hC] at HCo HCs HCp ⊢
  have hst := hok.st
  unfold SGot at HGS
  generalize (hdOf l).sh = sh at HGS HE HF HCo HCs HCp ⊢
  generalize (hdOf l).st = st at hst HE HCo HCs HCp ⊢
  generalize lWide l = wide at HPl HGS HE HF HCo HCs HCp ⊢
  generalize lBig l = big at HPl HGS HF HCo HCs HCp ⊢
  generalize scOf l sh wide big = sc at HGS HF
  generalize l.length = len at HGS HE
  generalize fst_ l = fs at HF HCo
  generalize sSize wide = ssz at HGS HE
  clear hC hok fok hn hnm
  by_cases h0 : sh = 0
  · have d0 : ((sh : Int) != 0) = false := by simp [h0]
    have d1 : ((sh : Int) == 0) = true := by simp [h0]
    have HS0 := Lib.hid h0
    rw [if_pos h0] at HF
    rw [if_neg (fun h => h.1 h0)] at HE
    clear h0 HGS
    obtain rfl : fs = sc0 := HF.out
    unfold Sc.V Sc.C sc0 at HCo
    clear HF
    go_enter Tryz.func26, Tryz.ntmps26
    go_wp2_with fail
    generalize hW : World.alloc _ _ = W0
    obtain ⟨b1, b2, b3, hg⟩ := blk3 hW
    clear hW
    have HM := Lib.hid b1
    have HT4 := Lib.hid b2
    have HB6 := Lib.hid b3
    have HG := Lib.hid hg
    have HG4 : Hid (w.heap.size ≤ w.heap.size + 1) := Lib.hid (by omega)
    have HG6a : Hid (w.heap.size + 1 ≠ w.heap.size + 1 + 1 ∧ w.heap.size ≠ w.heap.size + 1 + 1 ∧ w.heap.size ≤ w.heap.size + 1 + 1) := Lib.hid (by omega)
    clear b1 b2 b3 hg
    generalize w.heap.size + 1 + 1 = g6 at HB6 HG6a ⊢
    generalize w.heap.size + 1 = g4 at HT4 HG4 HG6a ⊢
    obtain ⟨gm, hgm⟩ : ∃ g, g = w.heap.size := ⟨_, rfl⟩
    have HGm := Lib.hid hgm
    rw [← hgm] at HM HG6a ⊢
    clear hgm
    clear HB6 HG6a
    refine (HCo.out _).mono ?_
    rintro e w3 ⟨rfl, hg⟩
    have HM3 := Lib.hid (HM.out.grow hg)
    have HT3 := Lib.hid (HT4.out.grow hg)
    have HG3 : Hid (Grow w w3) := Lib.hid (HG.out.trans hg)
    clear hg HM HT4 HG HCo
    have hal := Grow.of_alloc w3 (.cells #[.int .u64 (P : Int), .int .u64 (S : Int), .int .u64 (I : Int)] 86)
    have HMa := Lib.hid (HM3.out.grow hal)
    clear hal
    obtain ⟨v0, v1, v2, v3, v4, v5, v6, v7, v8, v9, v10, v11, v12⟩ := HMa.out.c13
    go_wp2_with fail
    clear v0 v1 v2 v3 v4 v5 v6 v7 v8 v9 v10 v11 v12 HMa
    generalize hW : World.alloc _ _ = w4
    obtain ⟨b8, hg⟩ := blk1 hW
    clear hW
    have HM4 := Lib.hid (HM3.out.grow hg)
    have HT5 := Lib.hid (HT3.out.grow hg)
    have HN4 := Lib.hid b8
    have HG5 : Hid (Grow w w4) := Lib.hid (HG3.out.trans hg)
    have HG8 : Hid (g4 ≠ w3.heap.size) := Lib.hid (by have := HT3.out.lt; omega)
    clear hg b8 HM3 HT3 HG3
    generalize w3.heap.size = g8 at HN4 HG8 ⊢
    refine (HCs.out _).mono ?_
    rintro e w5 ⟨v, rfl, hv, hg⟩
    have HV := Lib.hid hv
    have HM5 := Lib.hid (HM4.out.grow hg)
    have HT6 := Lib.hid (HT5.out.grow hg)
    have HN5 := Lib.hid (HN4.out.grow hg)
    have HG6 : Hid (Grow w w5) := Lib.hid (HG5.out.trans hg)
    clear hv hg HM4 HT5 HN4 HG5 HCs
    by_cases e1 : ES.1 = 0
    · rw [if_neg (by omega)] at HE
      obtain ⟨rfl, e2⟩ : v = .nilIface ∧ ES.2 = 0 := by
        rcases HV.out with ⟨_, a, b⟩ | ⟨a, _⟩
        · exact ⟨b, a⟩
        · omega
      clear e1 e2 HV
      obtain ⟨v0, v1, v2, v3, v4, v5, v6, v7, v8, v9, v10, v11, v12⟩ := HM5.out.c13
      have n0 := HN5.out.at 0
      go_wp2_with fail
      clear v0 v1 v2 v3 v4 v5 v6 v7 v8 v9 v10 v11 v12 n0
      refine (HCp.out _).mono ?_
      rintro e w6 ⟨v, rfl, hv, hg⟩
      have HV := Lib.hid hv
      have HM6 := Lib.hid (HM5.out.grow hg)
      have HT7 := Lib.hid (HT6.out.grow hg)
      have HN6 := Lib.hid (HN5.out.grow hg)
      have HG7 : Hid (Grow w w6) := Lib.hid (HG6.out.trans hg)
      clear hv hg HM5 HT6 HN5 HG6 HCp
      by_cases e1 : EP.1 = 0
      · rw [if_neg (by omega)] at HE
        obtain ⟨rfl, e2⟩ : v = .nilIface ∧ EP.2 = 0 := by
          rcases HV.out with ⟨_, a, b⟩ | ⟨a, _⟩
          · exact ⟨b, a⟩
          · omega
        clear e1 e2 HV
        have v12 := HM6.out.at 12
        have v8 := HM6.out.at 8
        have v0 := HM6.out.at 0
        have v1 := HM6.out.at 1
        have n0 := HN6.out.at 0
        have n1 := HN6.out.at 1
        have n2 := HN6.out.at 2
        by_cases e3 : st = 65535
        · rw [if_pos ⟨e3, HS0.out⟩] at HE
          have d3 : ((st : Int) == 65535) = true := by simp; omega
          clear e3
          go_wp2_with fail
          clear v12 v8 v0 v1 n0 n1 n2 d3
          refine (HPl.out _).mono ?_
          rintro e w7 ⟨rfl, hg⟩
          have HT8 := Lib.hid (HT7.out.grow hg)
          have HG8b : Hid (Grow w w7) := Lib.hid (HG7.out.trans hg)
          clear hg
          have nf4 := num_4
          go_wp2_with fail
          clear nf4
          refine (fspot_4 _ _).mono ?_
          rintro e w8 ⟨bq, rfl, hs, hg⟩
          have HSp := Lib.hid hs
          have HT9 := Lib.hid (HT8.out.grow hg)
          have HG9 : Hid (Grow w w8) := Lib.hid (HG8b.out.trans hg)
          clear hs hg HT8 HG8b
          go_wp2_with (refine wpList_store_row rfl 86 (.tmp 4) (.tmp 62) rfl g4 #[.int .u64 0, .int .u64 0, .int .u64 0] rfl rfl _ _ HT9.out (by kernel_rfl) rfl (by simp [Value.oneCell']) ?_)
          refine cnt_ret (by rfl) (by rfl) (HT9.out.set _) ?_
          exact ⟨_, 0, 0, 0, rfl, Err.past (by rw [HE.out]; exact HSp.out.err (by decide)) HT9.out (fun k h => by simp at h) _, fun h0 => absurd h0 (by rw [HE.out]; simp), Grow.set HG9.out HG4.out _⟩
        · rw [if_neg (fun h => e3 h.1)] at HE
          have d3 : ((st : Int) == 65535) = false := by simp; omega
          clear e3
          go_wp2_with (refine wpList_store_row rfl 86 (.tmp 4) (.tmp 69) rfl g4 #[.int .u64 (P : Int), .int .u64 (S : Int), .int .u64 (I : Int)] rfl rfl _ _ HT7.out (by kernel_rfl) rfl (by simp [Value.oneCell']) ?_)
          refine cnt_ret (by rfl) (by rfl) (HT7.out.set _) ?_
          exact ⟨_, P, S, I, rfl, by rw [HE.out]; exact .inl ⟨rfl, rfl, rfl⟩, fun _ => ⟨rfl, rfl, rfl⟩, Grow.set HG7.out HG4.out _⟩
      · rw [if_pos e1] at HE
        have HV2 : Hid (0 < EP.1 ∧ Err w6 v EP.1 EP.2) := Lib.hid ⟨by omega, HV.out⟩
        obtain ⟨b, rfl⟩ : ∃ b, v = .iface 107 (.pointer (some ⟨b, 0, none⟩)) := by
          rcases HV.out with ⟨a, _⟩ | ⟨_, b, e, _⟩
          · omega
          · exact ⟨b, e⟩
        clear e1 HV
        go_wp2_with (refine wpList_store_row rfl 86 (.tmp 4) (.tmp 52) rfl g4 #[.int .u64 0, .int .u64 0, .int .u64 0] rfl rfl _ _ HT7.out (by kernel_rfl) rfl (by simp [Value.oneCell']) ?_)
        refine cnt_ret (by rfl) (by rfl) (HT7.out.set _) ?_
        exact ⟨_, 0, 0, 0, rfl, Err.past (by rw [HE.out]; exact HV2.out.2) HT7.out (fun k h => by simp at h) _, fun h0 => absurd h0 (by rw [HE.out]; have := HV2.out.1; omega), Grow.set HG7.out HG4.out _⟩
    · rw [if_pos e1] at HE
      have HV2 : Hid (0 < ES.1 ∧ Err w5 v ES.1 ES.2) := Lib.hid ⟨by omega, HV.out⟩
      obtain ⟨b, rfl⟩ : ∃ b, v = .iface 107 (.pointer (some ⟨b, 0, none⟩)) := by
        rcases HV.out with ⟨a, _⟩ | ⟨_, b, e, _⟩
        · omega
        · exact ⟨b, e⟩
      clear e1 HV
      go_wp2_with (refine wpList_store_row rfl 86 (.tmp 4) (.tmp 43) rfl g4 #[.int .u64 0, .int .u64 0, .int .u64 0] rfl rfl _ _ HT6.out (by kernel_rfl) rfl (by simp [Value.oneCell']) ?_)
      refine cnt_ret (by rfl) (by rfl) (HT6.out.set _) ?_
      exact ⟨_, 0, 0, 0, rfl, Err.past (by rw [HE.out]; exact HV2.out.2) HT6.out (fun k h => by simp at h) _, fun h0 => absurd h0 (by rw [HE.out]; have := HV2.out.1; omega), Grow.set HG6.out HG4.out _⟩
  · have d0 : ((sh : Int) != 0) = true := by simp; omega
    have d1 : ((sh : Int) == 0) = false := by simp; omega
    have HS0 : Hid (¬ sh = 0) := Lib.hid h0
    rw [if_neg h0] at HF
    obtain rfl : fs = sc := HF.out
    clear HF
    go_enter Tryz.func26, Tryz.ntmps26
    go_wp2_with fail
    generalize hW : World.alloc _ _ = W0
    obtain ⟨b1, b2, b3, hg⟩ := blk3 hW
    clear hW
    have HM := Lib.hid b1
    have HT4 := Lib.hid b2
    have HB6 := Lib.hid b3
    have HG := Lib.hid hg
    have HG4 : Hid (w.heap.size ≤ w.heap.size + 1) := Lib.hid (by omega)
    have HG6a : Hid (w.heap.size + 1 ≠ w.heap.size + 1 + 1 ∧ w.heap.size ≠ w.heap.size + 1 + 1 ∧ w.heap.size ≤ w.heap.size + 1 + 1) := Lib.hid (by omega)
    clear b1 b2 b3 hg
    generalize w.heap.size + 1 + 1 = g6 at HB6 HG6a ⊢
    generalize w.heap.size + 1 = g4 at HT4 HG4 HG6a ⊢
    obtain ⟨gm, hgm⟩ : ∃ g, g = w.heap.size := ⟨_, rfl⟩
    have HGm := Lib.hid hgm
    rw [← hgm] at HM HG6a ⊢
    clear hgm
    refine (HGS.out _ HG.out).mono ?_
    rintro e w2 (⟨hin, rfl, hg⟩ | ⟨hin, rfl, hg⟩)
    · rw [if_neg (fun h => h.2 hin)] at HE
      have HM2 := Lib.hid (HM.out.grow hg)
      have HT2 := Lib.hid (HT4.out.grow hg)
      have HB2 := Lib.hid (HB6.out.grow hg)
      have HG2 : Hid (Grow w w2) := Lib.hid (HG.out.trans hg)
      clear hin hg h0 HM HT4 HB6 HG HGS
      obtain ⟨na, sty, sfl, ad, off, sz, li, inf, al, sen⟩ := fs
      unfold Sc.V at HCo ⊢
      have HSB := Lib.hid (HB2.out.set (Sc.mk na sty sfl ad off sz li inf al sen).C)
      have HM := Lib.hid (HM2.out.other HG6a.out.2.1 (Sc.mk na sty sfl ad off sz li inf al sen).C)
      have HT4 := Lib.hid (HT2.out.other HG6a.out.1 (Sc.mk na sty sfl ad off sz li inf al sen).C)
      have HG : Hid (Grow w (w2.setRow g6 (Sc.mk na sty sfl ad off sz li inf al sen).C)) := Lib.hid (Grow.set HG2.out (by have := HG6a.out.2.2; have := HGm.out; omega) _)
      unfold Sc.C at HCo
      obtain ⟨v0, v1, v2, v3, v4, v5, v6, v7, v8, v9, v10, v11, v12⟩ := HM.out.c13
      obtain ⟨z0, z1, z2, z3, z4, z5, z6, z7, z8, z9⟩ := Blk.c10 HSB.out
      go_wp2_with (refine wpList_store_row rfl 80 (.tmp 6) (.tmp 22) rfl g6 (Sc.mk na sty sfl ad off sz li inf al sen).C rfl rfl _ _ HB2.out (by kernel_rfl) rfl (Sc.one _) ?_)
      clear v0 v1 v2 v3 v4 v5 v6 v7 v8 v9 v10 v11 v12 z0 z1 z2 z3 z4 z5 z6 z7 z8 z9 HM2 HT2 HB2 HG2 HSB
      generalize w2.setRow g6 _ = w2b at HM HT4 HG ⊢
      refine (HCo.out _).mono ?_
      rintro e w3 ⟨rfl, hg⟩
      have HM3 := Lib.hid (HM.out.grow hg)
      have HT3 := Lib.hid (HT4.out.grow hg)
      have HG3 : Hid (Grow w w3) := Lib.hid (HG.out.trans hg)
      clear hg HM HT4 HG HCo
      have hal := Grow.of_alloc w3 (.cells #[.int .u64 (P : Int), .int .u64 (S : Int), .int .u64 (I : Int)] 86)
      have HMa := Lib.hid (HM3.out.grow hal)
      clear hal
      obtain ⟨v0, v1, v2, v3, v4, v5, v6, v7, v8, v9, v10, v11, v12⟩ := HMa.out.c13
      go_wp2_with fail
      clear v0 v1 v2 v3 v4 v5 v6 v7 v8 v9 v10 v11 v12 HMa
      generalize hW : World.alloc _ _ = w4
      obtain ⟨b8, hg⟩ := blk1 hW
      clear hW
      have HM4 := Lib.hid (HM3.out.grow hg)
      have HT5 := Lib.hid (HT3.out.grow hg)
      have HN4 := Lib.hid b8
      have HG5 : Hid (Grow w w4) := Lib.hid (HG3.out.trans hg)
      have HG8 : Hid (g4 ≠ w3.heap.size) := Lib.hid (by have := HT3.out.lt; omega)
      clear hg b8 HM3 HT3 HG3
      generalize w3.heap.size = g8 at HN4 HG8 ⊢
      refine (HCs.out _).mono ?_
      rintro e w5 ⟨v, rfl, hv, hg⟩
      have HV := Lib.hid hv
      have HM5 := Lib.hid (HM4.out.grow hg)
      have HT6 := Lib.hid (HT5.out.grow hg)
      have HN5 := Lib.hid (HN4.out.grow hg)
      have HG6 : Hid (Grow w w5) := Lib.hid (HG5.out.trans hg)
      clear hv hg HM4 HT5 HN4 HG5 HCs
      by_cases e1 : ES.1 = 0
      · rw [if_neg (by omega)] at HE
        obtain ⟨rfl, e2⟩ : v = .nilIface ∧ ES.2 = 0 := by
          rcases HV.out with ⟨_, a, b⟩ | ⟨a, _⟩
          · exact ⟨b, a⟩
          · omega
        clear e1 e2 HV
        obtain ⟨v0, v1, v2, v3, v4, v5, v6, v7, v8, v9, v10, v11, v12⟩ := HM5.out.c13
        have n0 := HN5.out.at 0
        go_wp2_with fail
        clear v0 v1 v2 v3 v4 v5 v6 v7 v8 v9 v10 v11 v12 n0
        refine (HCp.out _).mono ?_
        rintro e w6 ⟨v, rfl, hv, hg⟩
        have HV := Lib.hid hv
        have HM6 := Lib.hid (HM5.out.grow hg)
        have HT7 := Lib.hid (HT6.out.grow hg)
        have HN6 := Lib.hid (HN5.out.grow hg)
        have HG7 : Hid (Grow w w6) := Lib.hid (HG6.out.trans hg)
        clear hv hg HM5 HT6 HN5 HG6 HCp
        by_cases e1 : EP.1 = 0
        · rw [if_neg (by omega)] at HE
          obtain ⟨rfl, e2⟩ : v = .nilIface ∧ EP.2 = 0 := by
            rcases HV.out with ⟨_, a, b⟩ | ⟨a, _⟩
            · exact ⟨b, a⟩
            · omega
          clear e1 e2 HV
          have v12 := HM6.out.at 12
          have v8 := HM6.out.at 8
          have v0 := HM6.out.at 0
          have v1 := HM6.out.at 1
          have n0 := HN6.out.at 0
          have n1 := HN6.out.at 1
          have n2 := HN6.out.at 2
          by_cases e3 : st = 65535
          · rw [if_neg (fun h => HS0.out h.2)] at HE
            have d3 : ((st : Int) == 65535) = true := by simp; omega
            clear e3
            go_wp2_with (refine wpList_store_row rfl 86 (.tmp 4) (.tmp 69) rfl g4 #[.int .u64 (P : Int), .int .u64 (S : Int), .int .u64 (I : Int)] rfl rfl _ _ HT7.out (by kernel_rfl) rfl (by simp [Value.oneCell']) ?_)
            refine cnt_ret (by rfl) (by rfl) (HT7.out.set _) ?_
            exact ⟨_, P, S, I, rfl, by rw [HE.out]; exact .inl ⟨rfl, rfl, rfl⟩, fun _ => ⟨rfl, rfl, rfl⟩, Grow.set HG7.out HG4.out _⟩
          · rw [if_neg (fun h => e3 h.1)] at HE
            have d3 : ((st : Int) == 65535) = false := by simp; omega
            clear e3
            go_wp2_with (refine wpList_store_row rfl 86 (.tmp 4) (.tmp 69) rfl g4 #[.int .u64 (P : Int), .int .u64 (S : Int), .int .u64 (I : Int)] rfl rfl _ _ HT7.out (by kernel_rfl) rfl (by simp [Value.oneCell']) ?_)
            refine cnt_ret (by rfl) (by rfl) (HT7.out.set _) ?_
            exact ⟨_, P, S, I, rfl, by rw [HE.out]; exact .inl ⟨rfl, rfl, rfl⟩, fun _ => ⟨rfl, rfl, rfl⟩, Grow.set HG7.out HG4.out _⟩
        · rw [if_pos e1] at HE
          have HV2 : Hid (0 < EP.1 ∧ Err w6 v EP.1 EP.2) := Lib.hid ⟨by omega, HV.out⟩
          obtain ⟨b, rfl⟩ : ∃ b, v = .iface 107 (.pointer (some ⟨b, 0, none⟩)) := by
            rcases HV.out with ⟨a, _⟩ | ⟨_, b, e, _⟩
            · omega
            · exact ⟨b, e⟩
          clear e1 HV
          go_wp2_with (refine wpList_store_row rfl 86 (.tmp 4) (.tmp 52) rfl g4 #[.int .u64 0, .int .u64 0, .int .u64 0] rfl rfl _ _ HT7.out (by kernel_rfl) rfl (by simp [Value.oneCell']) ?_)
          refine cnt_ret (by rfl) (by rfl) (HT7.out.set _) ?_
          exact ⟨_, 0, 0, 0, rfl, Err.past (by rw [HE.out]; exact HV2.out.2) HT7.out (fun k h => by simp at h) _, fun h0 => absurd h0 (by rw [HE.out]; have := HV2.out.1; omega), Grow.set HG7.out HG4.out _⟩
      · rw [if_pos e1] at HE
        have HV2 : Hid (0 < ES.1 ∧ Err w5 v ES.1 ES.2) := Lib.hid ⟨by omega, HV.out⟩
        obtain ⟨b, rfl⟩ : ∃ b, v = .iface 107 (.pointer (some ⟨b, 0, none⟩)) := by
          rcases HV.out with ⟨a, _⟩ | ⟨_, b, e, _⟩
          · omega
          · exact ⟨b, e⟩
        clear e1 HV
        go_wp2_with (refine wpList_store_row rfl 86 (.tmp 4) (.tmp 43) rfl g4 #[.int .u64 0, .int .u64 0, .int .u64 0] rfl rfl _ _ HT6.out (by kernel_rfl) rfl (by simp [Value.oneCell']) ?_)
        refine cnt_ret (by rfl) (by rfl) (HT6.out.set _) ?_
        exact ⟨_, 0, 0, 0, rfl, Err.past (by rw [HE.out]; exact HV2.out.2) HT6.out (fun k h => by simp at h) _, fun h0 => absurd h0 (by rw [HE.out]; have := HV2.out.1; omega), Grow.set HG6.out HG4.out _⟩
    · rw [if_pos ⟨h0, by omega⟩] at HE
      have HM2 := Lib.hid (HM.out.grow hg)
      have HT2 := Lib.hid (HT4.out.grow hg)
      have HB2 := Lib.hid (HB6.out.grow hg)
      have HG2 : Hid (Grow w w2) := Lib.hid (HG.out.trans hg)
      clear hin hg h0 HM HT4 HB6 HG HGS HCo HCs HCp
      unfold Sc.V
      have HM := Lib.hid (HM2.out.other HG6a.out.2.1 sc0.C)
      have HT4 := Lib.hid (HT2.out.other HG6a.out.1 sc0.C)
      have HG : Hid (Grow w (w2.setRow g6 sc0.C)) := Lib.hid (Grow.set HG2.out (by have := HG6a.out.2.2; have := HGm.out; omega) _)
      have v0 := HM.out.at 0
      have v1 := HM.out.at 1
      go_wp2_with (refine wpList_store_row rfl 80 (.tmp 6) (.tmp 22) rfl g6 sc0.C rfl rfl _ _ HB2.out (by kernel_rfl) rfl (Sc.one _) ?_)
      clear v0 v1 HM2 HT2 HB2 HG2 HM
      generalize w2.setRow g6 _ = w2b at HT4 HG ⊢
      refine (HPl.out _).mono ?_
      rintro e w7 ⟨rfl, hg⟩
      have HT8 := Lib.hid (HT4.out.grow hg)
      have HG8b : Hid (Grow w w7) := Lib.hid (HG.out.trans hg)
      clear hg HT4 HG
      have nf1 := num_1
      go_wp2_with fail
      clear nf1
      refine (fspot_5 _ _).mono ?_
      rintro e w8 ⟨bq, rfl, hs, hg⟩
      have HSp := Lib.hid hs
      have HT9 := Lib.hid (HT8.out.grow hg)
      have HG9 : Hid (Grow w w8) := Lib.hid (HG8b.out.trans hg)
      clear hs hg HT8 HG8b
      go_wp2_with (refine wpList_store_row rfl 86 (.tmp 4) (.tmp 26) rfl g4 #[.int .u64 0, .int .u64 0, .int .u64 0] rfl rfl _ _ HT9.out (by kernel_rfl) rfl (by simp [Value.oneCell']) ?_)
      refine cnt_ret (by rfl) (by rfl) (HT9.out.set _) ?_
      exact ⟨_, 0, 0, 0, rfl, Err.past (by rw [HE.out]; exact HSp.out.err (by decide)) HT9.out (fun k h => by simp at h) _, fun h0 => absurd h0 (by rw [HE.out]; simp), Grow.set HG9.out HG4.out _⟩
end Go.Proofs.YtlccbekalccahaaGreatDoor

namespace Go.Proofs.YtlccbekalccahaaGreatDoor
open Go.RowKit

/-- What Get answers. -/
def PGot (l : List UInt8) (p : Nat) (wide big : Bool) (w : World) (e : Ending) (w' : World) : Prop :=
  (p + pSize wide ≤ l.length ∧ e = .returned (.tuple #[(pgOf l p wide big).V, .nilIface]) ∧ Grow w w') ∨
  (l.length < p + pSize wide ∧ e = .returned (.tuple #[pg0.V, .iface 81 (.int .i64 2)]) ∧ Grow w w')

theorem sz_pg (p : Pg) : (Tryz.prog.info? 76).map (·.size) = some p.C.size := by kernel_rfl

theorem Blk.put {w : World} {g : Nat} {t : TypeId} {l : List Nat} (h : Blk w g t (u64s l)) (i x : Nat) : Blk (w.setCell ⟨g, i, none⟩ (.int .u64 (x : Int))) g t (u64s (l.set i x)) := by
  have := Joins.block_setCell (i := i) h (.int .u64 (x : Int))
  rw [Blk, this]
  simp [u64s, List.map_set]
theorem pgot_ret {K : Ending → World → Prop} {W : World} {tmps : Array Value} {g : Nat} {err : Value} {t : TypeId} {h : Pg} (ht : tmps.getD 6 undef = .pointer (some ⟨g, 0, none⟩)) (he : tmps.getD 7 undef = err)
    (hx : Blk W g t h.C) (hk : K (.returned (.tuple #[h.V, err])) W) : bodyPost Tryz.prog Tryz.f69 K .ret ⟨tmps, []⟩ W := by
  refine bodyPost_ret (v := .tuple #[h.V, err]) ?_ rfl hk
  rw [results_cell_tmp rfl, ht, he]
  simp [asAddr, Result.andThen, hx.var _ _ Tryz.underlying76 rfl (by kernel_rfl)]
  rfl

set_option maxHeartbeats 400000 in
theorem pGet_any (A : Option Addr) (n c : Nat) (l : List UInt8) (p : Nat) (wide big : Bool) (w : World) (h : RB w w.heap.size A n c l) (hp : p < 18446744073709551616) :
    Calls Tryz.prog 69 #[.slice A n c, .int .u64 p, .agg #[.bool wide, .bool big]] w (PGot l p wide big w) := by
  have HR := Lib.hid h
  have HLen := Lib.hid h.len
  have hcp := h.cap
  have hmx := h.max
  unfold maxLen at hmx
  clear h
  have HSz := Lib.hid (fun w => pSize_any wide big w)
  have HOr := Lib.hid (fun w => pOrd_any wide big w)
  have HWi := Lib.hid (fun i w => pWid_any wide big i w)
  have HAO : Hid (∀ k, k < 8 → (i64s (pOrd wide))[k]? = some (.int .i64 ((pOrd wide).getD k 0 : Nat))) := Lib.hid (fun k hk => idx_i64s _ _ (by rw [len_pOrd]; exact hk))
  have HOl := Lib.hid (pOrd_lt wide)
  have HOk : Hid (∀ k, k < 8 → (pOrd wide)[k]? = some ((pOrd wide).getD k 0)) := Lib.hid (fun k hk => by rw [List.getD_eq_getElem?_getD, List.getElem?_eq_getElem (by rw [len_pOrd]; exact hk)]; rfl)
  have HAt := Lib.hid (pgOf_at l p wide big)
  have HNA : Hid (∀ k, k < 8 → (pX l p wide big).getD k 0 = getB ((l.drop (p + sumN ((pRow wide).take k))).take (pWid wide ((pOrd wide).getD k 0))) big) := Lib.hid (fun k hk => by
    have h1 : k < (pRow wide).length := by rw [len_pRow]; exact hk
    have := nums_at l big (pRow wide) p k h1
    rw [pX, List.getD_eq_getElem?_getD, this]
    simp only [pRow, List.getElem_map, Option.getD_some]
    rw [List.getD_eq_getElem?_getD, List.getElem?_eq_getElem (by rw [len_pOrd]; exact hk)]
    rfl)
  have HSu : Hid (∀ k, k < 8 → sumN ((pRow wide).take (k + 1)) = sumN ((pRow wide).take k) + pWid wide ((pOrd wide).getD k 0)) := Lib.hid (fun k hk => by
    have h1 : k < (pRow wide).length := by rw [len_pRow]; exact hk
    rw [sumN_succ _ k h1]
    simp only [pRow, List.getElem_map]
    rw [List.getD_eq_getElem?_getD, List.getElem?_eq_getElem (by rw [len_pOrd]; exact hk)]
    rfl)
  have HSl : Hid (∀ k, sumN ((pRow wide).take k) ≤ pSize wide) := Lib.hid (fun k => by rw [← sum_pRow]; exact sumN_le _ _)
  have HWw := Lib.hid (pWid_wid wide)
  have HHd : Hid (∀ w, Calls Tryz.prog 115 #[.agg (u64s (pgOf l p wide big).N)] w fun e w' => e = .returned (pgOf l p wide big).V ∧ Grow w w') := Lib.hid (fun w =>
    have ok := pgOf_ok l p wide big
    pHdr_any _ _ _ _ _ _ _ _ w ok.ty ok.fl)
  have HAll : Hid (laidIn (pOrd wide) (pgOf l p wide big).N 8 8 = (pgOf l p wide big).N) := Lib.hid (by
    have := laidIn_all (os := pOrd wide) (ns := (pgOf l p wide big).N) (n := 8) (pOrd_all wide) rfl
    rwa [len_pOrd] at this)
  have HSp : Hid (pSize wide ≤ 56) := by cases wide <;> exact Lib.hid (by decide)
  have HC : Hid ((pgOf l p wide big).C.size = 8) := Lib.hid rfl
  have HC1 := Lib.hid (pgOf l p wide big).one
  unfold PGot
  generalize hpg : pgOf l p wide big = pg at HAt HHd HAll HC HC1 ⊢
  clear hpg
  generalize pX l p wide big = xs at HAt HNA
  generalize i64s (pOrd wide) = RO at HOr HAO
  generalize pRow wide = row at HNA HSu HSl
  generalize pOrd wide = os at HAO HOl HOk HAt HNA HSu HAll
  generalize pSize wide = sz at HSz HSp HSl ⊢
  generalize hns : pg.N = ns at HAt HHd HAll
  have HVC : Hid (pg.V = .agg pg.C) := Lib.hid rfl
  clear hns
  go_enter Tryz.func69, Tryz.ntmps69
  go_wp2_with fail
  generalize hW : World.alloc _ _ = W0
  obtain ⟨bf, b6, hg0⟩ := blk2 hW
  clear hW
  refine (HSz.out W0).mono ?_
  rintro e w1 ⟨rfl, hg1⟩
  have HBF1 := Lib.hid (bf.grow hg1)
  have HB61 : Hid (Blk w1 (w.heap.size + 1) 76 pg0.C) := b6.grow hg1
  have HG1 : Hid (Grow w w1) := hg0.trans hg1
  clear bf b6 hg0 hg1
  have z1 : IntKind.u64.wrap (sz : Int) = (sz : Int) := by rw [IntKind.wrap_u64]; have := HSp.out; omega
  have z2 : IntKind.u64.wrap (n : Int) = (n : Int) := by rw [IntKind.wrap_u64]; omega
  go_wp2_with fail
  refine (within_any p sz n _ (by omega) (by omega) (by omega)).mono ?_
  rintro e w2 ⟨rfl, rfl⟩
  have hwt : wthn (p : Int) (sz : Int) (n : Int) = decide (p + sz ≤ l.length) := by
    have e := HLen.out
    simp only [wthn]
    rw [Bool.eq_iff_iff, decide_eq_true_iff, decide_eq_true_iff]; omega
  rw [hwt]
  clear hwt z1 z2
  by_cases hin : p + sz ≤ l.length
  · rw [decide_eq_true hin]
    have HIn := Lib.hid hin
    have HS1 := HSp.out
    have HSl2 : Hid (∀ k, p + sumN (row.take k) ≤ n) := Lib.hid (fun k => by have := HSl.out k; have := HLen.out; omega)
    clear hin
    obtain ⟨y0, y1⟩ := (HBF1.out.alloc (.cells #[.int .u64 0, .int .u64 0, .int .u64 0, .int .u64 0, .int .u64 0, .int .u64 0, .int .u64 0, .int .u64 0] 180)).c2
    go_wp2_with fail
    clear y0 y1
    refine (HOr.out _).mono ?_
    rintro e w3 ⟨rfl, hg3⟩
    have hb8 : Blk w3 w1.heap.size 180 (u64s (List.replicate 8 0)) := (Blk.new w1 180 (u64s (List.replicate 8 0))).grow hg3
    rw [← laidIn_zero os ns 8] at hb8
    have HB8 := Lib.hid hb8
    have HBF3 := Lib.hid ((HBF1.out.alloc _).grow hg3)
    have HB63 := Lib.hid ((HB61.out.alloc _).grow hg3)
    have HG3 : Hid (Grow w w3) := (HG1.out.trans (Grow.of_alloc _ _)).trans hg3
    have HG8 : Hid (w.heap.size + 1 < w1.heap.size) := HB61.out.lt
    generalize w1.heap.size = g8 at HB8 HG8 ⊢
    clear hb8 hg3 HBF1 HB61 HG1
    go_wp2_with fail
    go_loopw [1, 25] (fun a i wr => ∃ (k q : Nat), k ≤ 8 ∧ i = .int .i64 k ∧ a = .int .u64 q ∧ q = p + sumN (row.take k) ∧ Blk wr w.heap.size 23 #[.bool wide, .bool big] ∧ Blk wr (w.heap.size + 1) 76 pg0.C ∧ Blk wr g8 180 (u64s (laidIn os ns 8 k)) ∧ Grow w wr) (fun _ i _ => 8 - (intOf i).toNat)
    case atStart => exact ⟨0, p, by omega, rfl, rfl, rfl, HBF3.out, HB63.out, HB8.out, HG3.out⟩
    case round =>
      obtain ⟨k, q, hk, rfl, rfl, hq, hbf, hb6, hb8, hg⟩ := hrel
      have HBF := Lib.hid hbf
      have HB6 := Lib.hid hb6
      have HB8k := Lib.hid hb8
      have HG := Lib.hid hg
      have HQ := Lib.hid hq
      have hqn : q ≤ n := by rw [hq]; exact HSl2.out k
      clear hbf hb6 hb8 hg hq HBF3 HB63 HB8 HG3
      by_cases hlt : k < 8
      · have HK2 := Lib.hid (HAO.out k hlt)
        have HKo := Lib.hid (HOk.out k hlt)
        have ho8 := HOl.out k hlt
        have HAk := Lib.hid (HAt.out k hlt)
        have HNk := Lib.hid (HNA.out k hlt)
        have HSk := Lib.hid (HSu.out k hlt)
        rw [← HQ.out] at HNk
        have HW2 := Lib.hid (fun w => HWi.out (os.getD k 0) w)
        have HWk := Lib.hid (HWw.out (os.getD k 0))
        have hqm : q + pWid wide (os.getD k 0) ≤ n := by rw [HQ.out, Nat.add_assoc, ← HSk.out]; exact HSl2.out (k + 1)
        rw [HNk.out] at HAk
        generalize pWid wide (os.getD k 0) = m at HNk HSk HW2 HWk hqm HAk
        generalize os.getD k 0 = i at HK2 HKo ho8 HAk HW2
        have z1 : (0 : Int) ≤ (i : Int) := by omega
        have z2 : (i : Int) < 8 := by omega
        obtain ⟨y0, y1⟩ := HBF.out.c2
        go_wp2_with (refine wpList_index rfl 182 3 (.tmp 24) (.tmp 25) rfl 8 _ Tryz.underlying182 Tryz.underlying3 rfl (by kernel_rfl) RO k (.int .i64 (i : Int)) rfl rfl hlt HK2.out ?_)
        clear y0 y1
        refine (HW2.out _).mono ?_
        rintro e w4 ⟨rfl, hg4⟩
        have HBF4 := Lib.hid (HBF.out.grow hg4)
        have HB64 := Lib.hid (HB6.out.grow hg4)
        have HB84 := Lib.hid (HB8k.out.grow hg4)
        have HG4 : Hid (Grow w w4) := HG.out.trans hg4
        clear hg4 HBF HB6 HB8k HG
        obtain ⟨y0, y1⟩ := HBF4.out.c2
        go_wp2_with fail
        clear y0 y1
        refine (get_any A n c l _ q m big _ (HR.out.belowAt HG4.out (Nat.le_refl _)) (by omega)).mono ?_
        rintro e w5 ⟨rfl, j, hw5⟩
        have hgb : gotB l q m = true := by
          simp only [gotB, HWk.out, Bool.true_and, wthn]
          exact decide_eq_true (by have := HLen.out; omega)
        have hgv : gotV l q m big = getB ((l.drop q).take m) big := by
          simp only [gotV, hgb, if_true, Int.toNat_natCast]
        rw [hgb, hgv]
        generalize getB ((l.drop q).take m) big = v at HAk ⊢
        have HBF5 : Hid (Blk w5 w.heap.size 23 #[.bool wide, .bool big]) := by rw [hw5]; exact HBF4.out
        have HB65 : Hid (Blk w5 (w.heap.size + 1) 76 pg0.C) := by rw [hw5]; exact HB64.out
        have HB85 : Hid (Blk w5 g8 180 (u64s (laidIn os ns 8 k))) := by rw [hw5]; exact HB84.out
        have HG5 : Hid (Grow w w5) := by rw [hw5]; exact HG4.out.trans (Grow.of_drewN _ _)
        clear hgb hgv hw5 HBF4 HB64 HB84 HG4
        have c1 : w5.cell? ⟨g8, i, none⟩ = some (.int .u64 ((laidIn os ns 8 k).getD i 0 : Nat)) := by rw [HB85.out.at, idx_u64s _ _ (by rw [len_laidIn]; exact ho8)]
        have f1 := HB85.out.soft i
        have hB := HB85.out.put i v
        rw [laidIn_succ HKo.out HAk.out] at hB
        have HB86 := Lib.hid hB
        have HBF6 := Lib.hid (HBF5.out.cellset (a := ⟨g8, i, none⟩) (show w.heap.size ≠ g8 by have := HG8.out; omega) (.int .u64 (v : Int)))
        have HB66 := Lib.hid (HB65.out.cellset (a := ⟨g8, i, none⟩) (show w.heap.size + 1 ≠ g8 by have := HG8.out; omega) (.int .u64 (v : Int)))
        have HG6 : Hid (Grow w (w5.setCell ⟨g8, i, none⟩ (.int .u64 (v : Int)))) := Grow.cellset HG5.out (by have := HG8.out; omega) _ _
        have z3 : IntKind.u64.wrap (m : Int) = (m : Int) := by rw [IntKind.wrap_u64]; omega
        have z4 : IntKind.u64.wrap ((q : Int) + (m : Int)) = ((q + m : Nat) : Int) := by rw [IntKind.wrap_u64]; omega
        clear hB
        go_wp2_with fail
        go_roundw
        case rel => exact ⟨k + 1, q + m, by omega, by go_num, rfl, by rw [HSk.out, HQ.out]; omega, HBF6.out, HB66.out, HB86.out, HG6.out⟩
        case measure => simp [intOf]; omega
      · have e : k = 8 := by omega
        rw [e, HAll.out] at HB8k
        have HNs : Hid ((u64s ns).size = 8) := Lib.hid (by rw [← HAll.out]; simp [u64s, len_laidIn])
        generalize u64s ns = RN at HHd HB8k HNs
        clear HSl HSl2 HNA
        go_wp2_with (refine wpList_load_row rfl 180 (.tmp 8) rfl g8 rfl _ RN (0, 0) _ HB8k.out Tryz.underlying180 rfl (by rw [HNs.out]; kernel_rfl) ?_)
        refine (HHd.out _).mono ?_
        rintro e w5 ⟨rfl, hg5⟩
        have HB65 := Lib.hid (HB6.out.grow hg5)
        have HG5 : Hid (Grow w w5) := HG.out.trans hg5
        clear hg5
        rw [HVC.out]
        have HB66 := Lib.hid (HB65.out.set pg.C)
        have HG6 : Hid (Grow w (w5.setRow (w.heap.size + 1) pg.C)) := Grow.set HG5.out (Nat.le_succ _) _
        obtain ⟨R, hR⟩ : ∃ R, R = pg.C := ⟨_, rfl⟩
        rw [← hR] at HC HC1 HG6 HB66 ⊢
        have HR2 := Lib.hid hR
        clear hR
        go_wp2_with (refine wpList_store_row rfl 76 (.tmp 6) (.tmp 48) rfl (w.heap.size + 1) R rfl rfl _ _ HB65.out (by rw [HC.out]; kernel_rfl) (by rw [HC.out]; rfl) HC1.out ?_)
        rw [HR2.out] at HB66 HG6 ⊢
        exact pgot_ret (err := .nilIface) rfl rfl HB66.out (.inl ⟨HIn.out, rfl, HG6.out⟩)
  · rw [decide_eq_false hin]
    have HIn : Hid (l.length < p + sz) := Lib.hid (by omega)
    clear hin
    go_wp2_with (refine wpList_store_row rfl 76 (.tmp 6) (.tmp 21) rfl (w.heap.size + 1) pg0.C rfl rfl _ _ HB61.out (sz_pg pg0) rfl pg0.one ?_; rw [HB61.out.same])
    exact pgot_ret rfl rfl HB61.out (.inr ⟨HIn.out, rfl, HG1.out⟩)
end Go.Proofs.YtlccbekalccahaaGreatDoor
