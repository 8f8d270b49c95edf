/-
  Several texts in one: The contract of file.
-/
import Derived.Test.YtfbimboemahhhaaGreatDoorTfG30
namespace Go.Proofs.YtfbimboemahhhaaGreatDoor
open Go.Lib (hid)
open Go.RowKit
set_option maxRecDepth 100000
set_option linter.unusedVariables false
theorem Err.past {w : World} {v : Value} {c p g : Nat} {t : TypeId} {cs : Array Value} (h : Err w v c p) (hb : Blk w g t cs) (hne : ∀ k : Int, cs[0]? ≠ some (.int .i64 k)) (cs' : Array Value) : Err (w.setRow g cs') v c p := by
 rcases h with h | ⟨h0, b, h1, h2, h3, h4⟩
 ·exact .inl h
 ·have hbg : b ≠ g := fun e => by
   subst e
   rw [hb.at 0] at h3
   exact hne _ h3
  have key : ∀ o, (w.setRow g cs').cell? ⟨b, o, none⟩ = w.cell? ⟨b, o, none⟩ := fun o => by
   unfold World.cell?
   rw [setRow_other w g b cs' hbg]
  exact .inr ⟨h0, b, h1, by simpa using h2, by rw [key]; exact h3, by rw [key]; exact h4⟩
def CntR (l : List UInt8) (w : World) (e : Ending) (w' : World) : Prop :=
 ∃ v x y z, e = .returned (.tuple #[.agg #[.int .u64 ((x : Nat) : Int), .int .u64 ((y : Nat) : Int), .int .u64 ((z : Nat) : Int)], v]) ∧ Err w' v (cntE l).1 (cntE l).2 ∧ ((cntE l).1 = 0 → x = nP l ∧ y = nS l ∧ z = nI l) ∧ Grow w w'
def CntR' (E : Nat × Nat) (P S I : Nat) (w : World) (e : Ending) (w' : World) : Prop :=
 ∃ v x y z, e = .returned (.tuple #[.agg #[.int .u64 ((x : Nat) : Int), .int .u64 ((y : Nat) : Int), .int .u64 ((z : Nat) : Int)], v]) ∧ Err w' v E.1 E.2 ∧ (E.1 = 0 → x = P ∧ y = S ∧ z = I) ∧ Grow w w'
theorem cnt_ret {K : Ending → World → Prop} {W : World} {tmps : Array Value} {g : Nat} {ev a b c : Value} (ht : tmps.getD 4 undef = .pointer (some ⟨g, 0, none⟩)) (he : tmps.getD 5 undef = ev)
  (hx : Blk W g 114 #[a, b, c]) (hk : K (.returned (.tuple #[.agg #[a, b, c], ev])) W) : bodyPost Tryz.prog Tryz.f42 K .ret ⟨tmps, []⟩ W := by
 refine bodyPost_ret (v := .tuple #[.agg #[a, b, c], ev]) ?_ rfl hk
 rw [results_cell_tmp rfl, ht, he]
 simp [asAddr, Result.andThen, hx.var _ _ Tryz.underlying114 rfl (by kernel_rfl)]
set_option maxHeartbeats 8000000 in
theorem flCount_any (l : List UInt8) (A : Option Addr) (n c : Nat) (w : World) (hr : RB w w.heap.size A n c l) :
  Calls Tryz.prog 42 #[.slice A n c, (hdOf l).V] w (CntR l w) := by
 have hn := hr.len
 have hcp := hr.cap
 have hmx := hr.max
 have hnm : n ≤ maxLen := Nat.le_trans hcp hmx
 have hok := hdOf_ok l
 have fok : (fst_ l).Ok := by
  unfold fst_
  split
  ·exact ⟨by decide, by decide, by decide, by decide, by decide, by decide, by decide, by decide, by decide, by decide⟩
  ·exact scOf_ok _ _ _ _
 have HCo := hid (fun W => countsOf_any (hdOf l) hok (fst_ l) fok W)
 have HCs : Hid (∀ W, Calls Tryz.prog 92 #[.slice A n c, (hdOf l).V, .int .u64 (nS l : Nat)] W (ChkR (scE l) W)) := hid fun W => by
  have := checkSects_any (hdOf l) hok A n c (nS l) W hnm
  rwa [show scEf (hdOf l).wide (hdOf l).sh (nS l) n = scE l by rw [hn]; rfl] at this
 have HCp : Hid (∀ W, Calls Tryz.prog 93 #[.slice A n c, (hdOf l).V, .int .u64 (nP l : Nat)] W (ChkR (pgE l) W)) := hid fun W => by
  have := checkProgs_any (hdOf l) hok A n c (nP l) W hnm
  rwa [show pgEf (hdOf l).wide (hdOf l).pn (hdOf l).sh (hdOf l).ph (nP l) n = pgE l by rw [hn]; rfl] at this
 have HPl := hid (fun W => places_any (lWide l) (lBig l) W)
 have HGS : Hid (∀ W, Grow w W → Calls Tryz.prog 89 #[.slice A n c, .int .u64 ((hdOf l).sh : Nat), .agg #[.bool (lWide l), .bool (lBig l)]] W (SGot l (hdOf l).sh (lWide l) (lBig l) W)) := hid fun W hg => sGet_any A n c l (hdOf l).sh (lWide l) (lBig l) W (hr.grow hg) hok.sh
 have HE : Hid (cntE l = if (hdOf l).sh ≠ 0 ∧ ¬ (hdOf l).sh + sSize (lWide l) ≤ l.length then (5, oSh (lWide l)) else if (scE l).1 ≠ 0 then scE l else if (pgE l).1 ≠ 0 then pgE l else if (hdOf l).st = 65535 ∧ (hdOf l).sh = 0 then (4, oSt (lWide l)) else (0, 0)) := hid rfl
 have HF : Hid (fst_ l = if (hdOf l).sh = 0 then sc0 else scOf l (hdOf l).sh (lWide l) (lBig l)) := hid rfl
 have HNP : Hid ((if (hdOf l).pn = 65535 then (fst_ l).inf else (hdOf l).pn) = nP l) := hid rfl
 have HNS : Hid ((if (hdOf l).sn = 0 then (fst_ l).sz else (hdOf l).sn) = nS l) := hid rfl
 have HNI : Hid ((if (hdOf l).st = 65535 then (fst_ l).li else (hdOf l).st) = nI l) := hid rfl
 rw [HNP.out, HNS.out, HNI.out] at HCo
 show Calls _ _ _ _ (CntR' (cntE l) (nP l) (nS l) (nI l) w)
 clear HNP HNS HNI hr hmx hcp
 generalize nP l = P at HCo HCp ⊢
 generalize nS l = S at HCo HCs ⊢
 generalize nI l = I at HCo ⊢
 generalize cntE l = E at HE ⊢
 generalize scE l = ES at HCs HE
 generalize pgE l = EP at HCp HE
 obtain ⟨y2, y3, y4, y5, y6, y7, y9, y10, y11, hC⟩ : ∃ y2 y3 y4 y5 y6 y7 y9 y10 y11 : Value, (hdOf l).C = #[.bool (lWide l), .bool (lBig l), y2, y3, y4, y5, y6, y7, .int .u64 ((hdOf l).sh : Nat), y9, y10, y11, .int .u16 ((hdOf l).st : Nat)] := ⟨_, _, _, _, _, _, _, _, _, rfl⟩
 unfold Hd.V at HCo HCs HCp ⊢
 rw [hC] at HCo HCs HCp ⊢
 have hst := hok.st
 unfold SGot at HGS
 generalize (hdOf l).sh = sh at HGS HE HF HCo HCs HCp ⊢
 generalize (hdOf l).st = st at hst HE HCo HCs HCp ⊢
 generalize lWide l = wide at HPl HGS HE HF HCo HCs HCp ⊢
 generalize lBig l = big at HPl HGS HF HCo HCs HCp ⊢
 generalize scOf l sh wide big = sc at HGS HF
 generalize l.length = len at HGS HE
 generalize fst_ l = fs at HF HCo
 generalize sSize wide = ssz at HGS HE
 clear hC hok fok hn hnm
 by_cases h0 : sh = 0
 ·have d0 : ((sh : Int) != 0) = false := by simp [h0]
  have d1 : ((sh : Int) == 0) = true := by simp [h0]
  have HS0 := hid h0
  rw [if_pos h0] at HF
  rw [if_neg (fun h => h.1 h0)] at HE
  clear h0 HGS
  obtain rfl : fs = sc0 := HF.out
  unfold Sc.V Sc.C sc0 at HCo
  clear HF
  go_enter Tryz.func42, Tryz.ntmps42
  go_wp2_with fail
  generalize hW : World.alloc _ _ = W0
  obtain ⟨b1, b2, b3, hg⟩ := blk3 hW
  clear hW
  have HM := hid b1
  have HT4 := hid b2
  have HB6 := hid b3
  have HG := hid hg
  have HG4 : Hid (w.heap.size ≤ w.heap.size + 1) := hid (by omega)
  have HG6a : Hid (w.heap.size + 1 ≠ w.heap.size + 1 + 1 ∧ w.heap.size ≠ w.heap.size + 1 + 1 ∧ w.heap.size ≤ w.heap.size + 1 + 1) := hid (by omega)
  clear b1 b2 b3 hg
  generalize w.heap.size + 1 + 1 = g6 at HB6 HG6a ⊢
  generalize w.heap.size + 1 = g4 at HT4 HG4 HG6a ⊢
  obtain ⟨gm, hgm⟩ : ∃ g, g = w.heap.size := ⟨_, rfl⟩
  have HGm := hid hgm
  rw [← hgm] at HM HG6a ⊢
  clear hgm
  clear HB6 HG6a
  refine (HCo.out _).mono ?_
  rintro e w3 ⟨rfl, hg⟩
  have HM3 := hid (HM.out.grow hg)
  have HT3 := hid (HT4.out.grow hg)
  have HG3 : Hid (Grow w w3) := hid (HG.out.trans hg)
  clear hg HM HT4 HG HCo
  have hal := Grow.of_alloc w3 (.cells #[.int .u64 (P : Int), .int .u64 (S : Int), .int .u64 (I : Int)] 114)
  have HMa := hid (HM3.out.grow hal)
  clear hal
  obtain ⟨v0, v1, v2, v3, v4, v5, v6, v7, v8, v9, v10, v11, v12⟩ := HMa.out.c13
  go_wp2_with fail
  clear v0 v1 v2 v3 v4 v5 v6 v7 v8 v9 v10 v11 v12 HMa
  generalize hW : World.alloc _ _ = w4
  obtain ⟨b8, hg⟩ := blk1 hW
  clear hW
  have HM4 := hid (HM3.out.grow hg)
  have HT5 := hid (HT3.out.grow hg)
  have HN4 := hid b8
  have HG5 : Hid (Grow w w4) := hid (HG3.out.trans hg)
  have HG8 : Hid (g4 ≠ w3.heap.size) := hid (by have := HT3.out.lt; omega)
  clear hg b8 HM3 HT3 HG3
  generalize w3.heap.size = g8 at HN4 HG8 ⊢
  refine (HCs.out _).mono ?_
  rintro e w5 ⟨v, rfl, hv, hg⟩
  have HV := hid hv
  have HM5 := hid (HM4.out.grow hg)
  have HT6 := hid (HT5.out.grow hg)
  have HN5 := hid (HN4.out.grow hg)
  have HG6 : Hid (Grow w w5) := hid (HG5.out.trans hg)
  clear hv hg HM4 HT5 HN4 HG5 HCs
  by_cases e1 : ES.1 = 0
  ·rw [if_neg (by omega)] at HE
   obtain ⟨rfl, e2⟩ : v = .nilIface ∧ ES.2 = 0 := by
    rcases HV.out with ⟨_, a, b⟩ | ⟨a, _⟩
    ·exact ⟨b, a⟩
    ·omega
   clear e1 e2 HV
   obtain ⟨v0, v1, v2, v3, v4, v5, v6, v7, v8, v9, v10, v11, v12⟩ := HM5.out.c13
   have n0 := HN5.out.at 0
   go_wp2_with fail
   clear v0 v1 v2 v3 v4 v5 v6 v7 v8 v9 v10 v11 v12 n0
   refine (HCp.out _).mono ?_
   rintro e w6 ⟨v, rfl, hv, hg⟩
   have HV := hid hv
   have HM6 := hid (HM5.out.grow hg)
   have HT7 := hid (HT6.out.grow hg)
   have HN6 := hid (HN5.out.grow hg)
   have HG7 : Hid (Grow w w6) := hid (HG6.out.trans hg)
   clear hv hg HM5 HT6 HN5 HG6 HCp
   by_cases e1 : EP.1 = 0
   ·rw [if_neg (by omega)] at HE
    obtain ⟨rfl, e2⟩ : v = .nilIface ∧ EP.2 = 0 := by
     rcases HV.out with ⟨_, a, b⟩ | ⟨a, _⟩
     ·exact ⟨b, a⟩
     ·omega
    clear e1 e2 HV
    have v12 := HM6.out.at 12
    have v8 := HM6.out.at 8
    have v0 := HM6.out.at 0
    have v1 := HM6.out.at 1
    have n0 := HN6.out.at 0
    have n1 := HN6.out.at 1
    have n2 := HN6.out.at 2
    by_cases e3 : st = 65535
    ·rw [if_pos ⟨e3, HS0.out⟩] at HE
     have d3 : ((st : Int) == 65535) = true := by simp; omega
     clear e3
     go_wp2_with fail
     clear v12 v8 v0 v1 n0 n1 n2 d3
     refine (HPl.out _).mono ?_
     rintro e w7 ⟨rfl, hg⟩
     have HT8 := hid (HT7.out.grow hg)
     have HG8b : Hid (Grow w w7) := hid (HG7.out.trans hg)
     clear hg
     have nf4 := num_4
     go_wp2_with fail
     clear nf4
     refine (fspot_4 _ _).mono ?_
     rintro e w8 ⟨bq, rfl, hs, hg⟩
     have HSp := hid hs
     have HT9 := hid (HT8.out.grow hg)
     have HG9 : Hid (Grow w w8) := hid (HG8b.out.trans hg)
     clear hs hg HT8 HG8b
     go_wp2_with (refine wpList_store_row rfl 114 (.tmp 4) (.tmp 62) rfl g4 #[.int .u64 0, .int .u64 0, .int .u64 0] rfl rfl _ _ HT9.out (by kernel_rfl) rfl (by simp [Value.oneCell']) ?_)
     refine cnt_ret (by rfl) (by rfl) (HT9.out.set _) ?_
     exact ⟨_, 0, 0, 0, rfl, Err.past (by rw [HE.out]; exact HSp.out.err (by decide)) HT9.out (fun k h => by simp at h) _, fun h0 => absurd h0 (by rw [HE.out]; simp), Grow.set HG9.out HG4.out _⟩
    ·rw [if_neg (fun h => e3 h.1)] at HE
     have d3 : ((st : Int) == 65535) = false := by simp; omega
     clear e3
     go_wp2_with (refine wpList_store_row rfl 114 (.tmp 4) (.tmp 69) rfl g4 #[.int .u64 (P : Int), .int .u64 (S : Int), .int .u64 (I : Int)] rfl rfl _ _ HT7.out (by kernel_rfl) rfl (by simp [Value.oneCell']) ?_)
     refine cnt_ret (by rfl) (by rfl) (HT7.out.set _) ?_
     exact ⟨_, P, S, I, rfl, by rw [HE.out]; exact .inl ⟨rfl, rfl, rfl⟩, fun _ => ⟨rfl, rfl, rfl⟩, Grow.set HG7.out HG4.out _⟩
   ·rw [if_pos e1] at HE
    have HV2 : Hid (0 < EP.1 ∧ Err w6 v EP.1 EP.2) := hid ⟨by omega, HV.out⟩
    obtain ⟨b, rfl⟩ : ∃ b, v = .iface 126 (.pointer (some ⟨b, 0, none⟩)) := by
     rcases HV.out with ⟨a, _⟩ | ⟨_, b, e, _⟩
     ·omega
     ·exact ⟨b, e⟩
    clear e1 HV
    go_wp2_with (refine wpList_store_row rfl 114 (.tmp 4) (.tmp 52) rfl g4 #[.int .u64 0, .int .u64 0, .int .u64 0] rfl rfl _ _ HT7.out (by kernel_rfl) rfl (by simp [Value.oneCell']) ?_)
    refine cnt_ret (by rfl) (by rfl) (HT7.out.set _) ?_
    exact ⟨_, 0, 0, 0, rfl, Err.past (by rw [HE.out]; exact HV2.out.2) HT7.out (fun k h => by simp at h) _, fun h0 => absurd h0 (by rw [HE.out]; have := HV2.out.1; omega), Grow.set HG7.out HG4.out _⟩
  ·rw [if_pos e1] at HE
   have HV2 : Hid (0 < ES.1 ∧ Err w5 v ES.1 ES.2) := hid ⟨by omega, HV.out⟩
   obtain ⟨b, rfl⟩ : ∃ b, v = .iface 126 (.pointer (some ⟨b, 0, none⟩)) := by
    rcases HV.out with ⟨a, _⟩ | ⟨_, b, e, _⟩
    ·omega
    ·exact ⟨b, e⟩
   clear e1 HV
   go_wp2_with (refine wpList_store_row rfl 114 (.tmp 4) (.tmp 43) rfl g4 #[.int .u64 0, .int .u64 0, .int .u64 0] rfl rfl _ _ HT6.out (by kernel_rfl) rfl (by simp [Value.oneCell']) ?_)
   refine cnt_ret (by rfl) (by rfl) (HT6.out.set _) ?_
   exact ⟨_, 0, 0, 0, rfl, Err.past (by rw [HE.out]; exact HV2.out.2) HT6.out (fun k h => by simp at h) _, fun h0 => absurd h0 (by rw [HE.out]; have := HV2.out.1; omega), Grow.set HG6.out HG4.out _⟩
 ·have d0 : ((sh : Int) != 0) = true := by simp; omega
  have d1 : ((sh : Int) == 0) = false := by simp; omega
  have HS0 : Hid (¬ sh = 0) := hid h0
  rw [if_neg h0] at HF
  obtain rfl : fs = sc := HF.out
  clear HF
  go_enter Tryz.func42, Tryz.ntmps42
  go_wp2_with fail
  generalize hW : World.alloc _ _ = W0
  obtain ⟨b1, b2, b3, hg⟩ := blk3 hW
  clear hW
  have HM := hid b1
  have HT4 := hid b2
  have HB6 := hid b3
  have HG := hid hg
  have HG4 : Hid (w.heap.size ≤ w.heap.size + 1) := hid (by omega)
  have HG6a : Hid (w.heap.size + 1 ≠ w.heap.size + 1 + 1 ∧ w.heap.size ≠ w.heap.size + 1 + 1 ∧ w.heap.size ≤ w.heap.size + 1 + 1) := hid (by omega)
  clear b1 b2 b3 hg
  generalize w.heap.size + 1 + 1 = g6 at HB6 HG6a ⊢
  generalize w.heap.size + 1 = g4 at HT4 HG4 HG6a ⊢
  obtain ⟨gm, hgm⟩ : ∃ g, g = w.heap.size := ⟨_, rfl⟩
  have HGm := hid hgm
  rw [← hgm] at HM HG6a ⊢
  clear hgm
  refine (HGS.out _ HG.out).mono ?_
  rintro e w2 (⟨hin, rfl, hg⟩ | ⟨hin, rfl, hg⟩)
  ·rw [if_neg (fun h => h.2 hin)] at HE
   have HM2 := hid (HM.out.grow hg)
   have HT2 := hid (HT4.out.grow hg)
   have HB2 := hid (HB6.out.grow hg)
   have HG2 : Hid (Grow w w2) := hid (HG.out.trans hg)
   clear hin hg h0 HM HT4 HB6 HG HGS
   obtain ⟨na, sty, sfl, ad, off, sz, li, inf, al, sen⟩ := fs
   unfold Sc.V at HCo ⊢
   have HSB := hid (HB2.out.set (Sc.mk na sty sfl ad off sz li inf al sen).C)
   have HM := hid (HM2.out.other HG6a.out.2.1 (Sc.mk na sty sfl ad off sz li inf al sen).C)
   have HT4 := hid (HT2.out.other HG6a.out.1 (Sc.mk na sty sfl ad off sz li inf al sen).C)
   have HG : Hid (Grow w (w2.setRow g6 (Sc.mk na sty sfl ad off sz li inf al sen).C)) := hid (Grow.set HG2.out (by have := HG6a.out.2.2; have := HGm.out; omega) _)
   unfold Sc.C at HCo
   obtain ⟨v0, v1, v2, v3, v4, v5, v6, v7, v8, v9, v10, v11, v12⟩ := HM.out.c13
   obtain ⟨z0, z1, z2, z3, z4, z5, z6, z7, z8, z9⟩ := Blk.c10 HSB.out
   go_wp2_with (refine wpList_store_row rfl 172 (.tmp 6) (.tmp 22) rfl g6 (Sc.mk na sty sfl ad off sz li inf al sen).C rfl rfl _ _ HB2.out (by kernel_rfl) rfl (Sc.one _) ?_)
   clear v0 v1 v2 v3 v4 v5 v6 v7 v8 v9 v10 v11 v12 z0 z1 z2 z3 z4 z5 z6 z7 z8 z9 HM2 HT2 HB2 HG2 HSB
   generalize w2.setRow g6 _ = w2b at HM HT4 HG ⊢
   refine (HCo.out _).mono ?_
   rintro e w3 ⟨rfl, hg⟩
   have HM3 := hid (HM.out.grow hg)
   have HT3 := hid (HT4.out.grow hg)
   have HG3 : Hid (Grow w w3) := hid (HG.out.trans hg)
   clear hg HM HT4 HG HCo
   have hal := Grow.of_alloc w3 (.cells #[.int .u64 (P : Int), .int .u64 (S : Int), .int .u64 (I : Int)] 114)
   have HMa := hid (HM3.out.grow hal)
   clear hal
   obtain ⟨v0, v1, v2, v3, v4, v5, v6, v7, v8, v9, v10, v11, v12⟩ := HMa.out.c13
   go_wp2_with fail
   clear v0 v1 v2 v3 v4 v5 v6 v7 v8 v9 v10 v11 v12 HMa
   generalize hW : World.alloc _ _ = w4
   obtain ⟨b8, hg⟩ := blk1 hW
   clear hW
   have HM4 := hid (HM3.out.grow hg)
   have HT5 := hid (HT3.out.grow hg)
   have HN4 := hid b8
   have HG5 : Hid (Grow w w4) := hid (HG3.out.trans hg)
   have HG8 : Hid (g4 ≠ w3.heap.size) := hid (by have := HT3.out.lt; omega)
   clear hg b8 HM3 HT3 HG3
   generalize w3.heap.size = g8 at HN4 HG8 ⊢
   refine (HCs.out _).mono ?_
   rintro e w5 ⟨v, rfl, hv, hg⟩
   have HV := hid hv
   have HM5 := hid (HM4.out.grow hg)
   have HT6 := hid (HT5.out.grow hg)
   have HN5 := hid (HN4.out.grow hg)
   have HG6 : Hid (Grow w w5) := hid (HG5.out.trans hg)
   clear hv hg HM4 HT5 HN4 HG5 HCs
   by_cases e1 : ES.1 = 0
   ·rw [if_neg (by omega)] at HE
    obtain ⟨rfl, e2⟩ : v = .nilIface ∧ ES.2 = 0 := by
     rcases HV.out with ⟨_, a, b⟩ | ⟨a, _⟩
     ·exact ⟨b, a⟩
     ·omega
    clear e1 e2 HV
    obtain ⟨v0, v1, v2, v3, v4, v5, v6, v7, v8, v9, v10, v11, v12⟩ := HM5.out.c13
    have n0 := HN5.out.at 0
    go_wp2_with fail
    clear v0 v1 v2 v3 v4 v5 v6 v7 v8 v9 v10 v11 v12 n0
    refine (HCp.out _).mono ?_
    rintro e w6 ⟨v, rfl, hv, hg⟩
    have HV := hid hv
    have HM6 := hid (HM5.out.grow hg)
    have HT7 := hid (HT6.out.grow hg)
    have HN6 := hid (HN5.out.grow hg)
    have HG7 : Hid (Grow w w6) := hid (HG6.out.trans hg)
    clear hv hg HM5 HT6 HN5 HG6 HCp
    by_cases e1 : EP.1 = 0
    ·rw [if_neg (by omega)] at HE
     obtain ⟨rfl, e2⟩ : v = .nilIface ∧ EP.2 = 0 := by
      rcases HV.out with ⟨_, a, b⟩ | ⟨a, _⟩
      ·exact ⟨b, a⟩
      ·omega
     clear e1 e2 HV
     have v12 := HM6.out.at 12
     have v8 := HM6.out.at 8
     have v0 := HM6.out.at 0
     have v1 := HM6.out.at 1
     have n0 := HN6.out.at 0
     have n1 := HN6.out.at 1
     have n2 := HN6.out.at 2
     by_cases e3 : st = 65535
     ·rw [if_neg (fun h => HS0.out h.2)] at HE
      have d3 : ((st : Int) == 65535) = true := by simp; omega
      clear e3
      go_wp2_with (refine wpList_store_row rfl 114 (.tmp 4) (.tmp 69) rfl g4 #[.int .u64 (P : Int), .int .u64 (S : Int), .int .u64 (I : Int)] rfl rfl _ _ HT7.out (by kernel_rfl) rfl (by simp [Value.oneCell']) ?_)
      refine cnt_ret (by rfl) (by rfl) (HT7.out.set _) ?_
      exact ⟨_, P, S, I, rfl, by rw [HE.out]; exact .inl ⟨rfl, rfl, rfl⟩, fun _ => ⟨rfl, rfl, rfl⟩, Grow.set HG7.out HG4.out _⟩
     ·rw [if_neg (fun h => e3 h.1)] at HE
      have d3 : ((st : Int) == 65535) = false := by simp; omega
      clear e3
      go_wp2_with (refine wpList_store_row rfl 114 (.tmp 4) (.tmp 69) rfl g4 #[.int .u64 (P : Int), .int .u64 (S : Int), .int .u64 (I : Int)] rfl rfl _ _ HT7.out (by kernel_rfl) rfl (by simp [Value.oneCell']) ?_)
      refine cnt_ret (by rfl) (by rfl) (HT7.out.set _) ?_
      exact ⟨_, P, S, I, rfl, by rw [HE.out]; exact .inl ⟨rfl, rfl, rfl⟩, fun _ => ⟨rfl, rfl, rfl⟩, Grow.set HG7.out HG4.out _⟩
    ·rw [if_pos e1] at HE
     have HV2 : Hid (0 < EP.1 ∧ Err w6 v EP.1 EP.2) := hid ⟨by omega, HV.out⟩
     obtain ⟨b, rfl⟩ : ∃ b, v = .iface 126 (.pointer (some ⟨b, 0, none⟩)) := by
      rcases HV.out with ⟨a, _⟩ | ⟨_, b, e, _⟩
      ·omega
      ·exact ⟨b, e⟩
     clear e1 HV
     go_wp2_with (refine wpList_store_row rfl 114 (.tmp 4) (.tmp 52) rfl g4 #[.int .u64 0, .int .u64 0, .int .u64 0] rfl rfl _ _ HT7.out (by kernel_rfl) rfl (by simp [Value.oneCell']) ?_)
     refine cnt_ret (by rfl) (by rfl) (HT7.out.set _) ?_
     exact ⟨_, 0, 0, 0, rfl, Err.past (by rw [HE.out]; exact HV2.out.2) HT7.out (fun k h => by simp at h) _, fun h0 => absurd h0 (by rw [HE.out]; have := HV2.out.1; omega), Grow.set HG7.out HG4.out _⟩
   ·rw [if_pos e1] at HE
    have HV2 : Hid (0 < ES.1 ∧ Err w5 v ES.1 ES.2) := hid ⟨by omega, HV.out⟩
    obtain ⟨b, rfl⟩ : ∃ b, v = .iface 126 (.pointer (some ⟨b, 0, none⟩)) := by
     rcases HV.out with ⟨a, _⟩ | ⟨_, b, e, _⟩
     ·omega
     ·exact ⟨b, e⟩
    clear e1 HV
    go_wp2_with (refine wpList_store_row rfl 114 (.tmp 4) (.tmp 43) rfl g4 #[.int .u64 0, .int .u64 0, .int .u64 0] rfl rfl _ _ HT6.out (by kernel_rfl) rfl (by simp [Value.oneCell']) ?_)
    refine cnt_ret (by rfl) (by rfl) (HT6.out.set _) ?_
    exact ⟨_, 0, 0, 0, rfl, Err.past (by rw [HE.out]; exact HV2.out.2) HT6.out (fun k h => by simp at h) _, fun h0 => absurd h0 (by rw [HE.out]; have := HV2.out.1; omega), Grow.set HG6.out HG4.out _⟩
  ·rw [if_pos ⟨h0, by omega⟩] at HE
   have HM2 := hid (HM.out.grow hg)
   have HT2 := hid (HT4.out.grow hg)
   have HB2 := hid (HB6.out.grow hg)
   have HG2 : Hid (Grow w w2) := hid (HG.out.trans hg)
   clear hin hg h0 HM HT4 HB6 HG HGS HCo HCs HCp
   unfold Sc.V
   have HM := hid (HM2.out.other HG6a.out.2.1 sc0.C)
   have HT4 := hid (HT2.out.other HG6a.out.1 sc0.C)
   have HG : Hid (Grow w (w2.setRow g6 sc0.C)) := hid (Grow.set HG2.out (by have := HG6a.out.2.2; have := HGm.out; omega) _)
   have v0 := HM.out.at 0
   have v1 := HM.out.at 1
   go_wp2_with (refine wpList_store_row rfl 172 (.tmp 6) (.tmp 22) rfl g6 sc0.C rfl rfl _ _ HB2.out (by kernel_rfl) rfl (Sc.one _) ?_)
   clear v0 v1 HM2 HT2 HB2 HG2 HM
   generalize w2.setRow g6 _ = w2b at HT4 HG ⊢
   refine (HPl.out _).mono ?_
   rintro e w7 ⟨rfl, hg⟩
   have HT8 := hid (HT4.out.grow hg)
   have HG8b : Hid (Grow w w7) := hid (HG.out.trans hg)
   clear hg HT4 HG
   have nf1 := num_1
   go_wp2_with fail
   clear nf1
   refine (fspot_5 _ _).mono ?_
   rintro e w8 ⟨bq, rfl, hs, hg⟩
   have HSp := hid hs
   have HT9 := hid (HT8.out.grow hg)
   have HG9 : Hid (Grow w w8) := hid (HG8b.out.trans hg)
   clear hs hg HT8 HG8b
   go_wp2_with (refine wpList_store_row rfl 114 (.tmp 4) (.tmp 26) rfl g4 #[.int .u64 0, .int .u64 0, .int .u64 0] rfl rfl _ _ HT9.out (by kernel_rfl) rfl (by simp [Value.oneCell']) ?_)
   refine cnt_ret (by rfl) (by rfl) (HT9.out.set _) ?_
   exact ⟨_, 0, 0, 0, rfl, Err.past (by rw [HE.out]; exact HSp.out.err (by decide)) HT9.out (fun k h => by simp at h) _, fun h0 => absurd h0 (by rw [HE.out]; simp), Grow.set HG9.out HG4.out _⟩
end Go.Proofs.YtfbimboemahhhaaGreatDoor
