/-
  Several texts in one: The contract of file; In a plan that ends in the file nothing stands in one place with another thing, and all is in the file; A model that may be planned.
-/
import Derived.Test.YtlccbekalccahaaGreatDoorFqH18
import Derived.Test.YtlccbekalccahaaGreatDoorFqH11
namespace Go.Proofs.YtlccbekalccahaaGreatDoor
open Go.Lib (hid)
open Go.RowKit
set_option maxRecDepth 100000
set_option linter.unusedVariables false
theorem Err.past {w : World} {v : Value} {c p g : Nat} {t : TypeId} {cs : Array Value} (h : Err w v c p) (hb : Blk w g t cs) (hne : ∀ k : Int, cs[0]? ≠ some (.int .i64 k)) (cs' : Array Value) : Err (w.setRow g cs') v c p := by
 rcases h with h | ⟨h0, b, h1, h2, h3, h4⟩
 ·exact .inl h
 ·have hbg : b ≠ g := fun e => by
   subst e
   rw [hb.at 0] at h3
   exact hne _ h3
  have key : ∀ o, (w.setRow g cs').cell? ⟨b, o, none⟩ = w.cell? ⟨b, o, none⟩ := fun o => by
   unfold World.cell?
   rw [setRow_other w g b cs' hbg]
  exact .inr ⟨h0, b, h1, by simpa using h2, by rw [key]; exact h3, by rw [key]; exact h4⟩
def CntR (l : List UInt8) (w : World) (e : Ending) (w' : World) : Prop :=
 ∃ v x y z, e = .returned (.tuple #[.agg #[.int .u64 ((x : Nat) : Int), .int .u64 ((y : Nat) : Int), .int .u64 ((z : Nat) : Int)], v]) ∧ Err w' v (cntE l).1 (cntE l).2 ∧ ((cntE l).1 = 0 → x = nP l ∧ y = nS l ∧ z = nI l) ∧ Grow w w'
def CntR' (E : Nat × Nat) (P S I : Nat) (w : World) (e : Ending) (w' : World) : Prop :=
 ∃ v x y z, e = .returned (.tuple #[.agg #[.int .u64 ((x : Nat) : Int), .int .u64 ((y : Nat) : Int), .int .u64 ((z : Nat) : Int)], v]) ∧ Err w' v E.1 E.2 ∧ (E.1 = 0 → x = P ∧ y = S ∧ z = I) ∧ Grow w w'
theorem cnt_ret {K : Ending → World → Prop} {W : World} {tmps : Array Value} {g : Nat} {ev a b c : Value} (ht : tmps.getD 4 undef = .pointer (some ⟨g, 0, none⟩)) (he : tmps.getD 5 undef = ev)
  (hx : Blk W g 86 #[a, b, c]) (hk : K (.returned (.tuple #[.agg #[a, b, c], ev])) W) : bodyPost Tryz.prog Tryz.f26 K .ret ⟨tmps, []⟩ W := by
 refine bodyPost_ret (v := .tuple #[.agg #[a, b, c], ev]) ?_ rfl hk
 rw [results_cell_tmp rfl, ht, he]
 simp [asAddr, Result.andThen, hx.var _ _ Tryz.underlying86 rfl (by kernel_rfl)]
theorem err_of {w : World} {b c p : Nat} {v : Value} (h : Spt w v c p) (hc : 0 < c) : Err w v c p := h.err hc
set_option maxHeartbeats 8000000 in
theorem flCount_any (l : List UInt8) (A : Option Addr) (n c : Nat) (w : World) (hr : RB w w.heap.size A n c l) :
  Calls Tryz.prog 26 #[.slice A n c, (hdOf l).V] w (CntR l w) := by
 have hn := hr.len
 have hcp := hr.cap
 have hmx := hr.max
 have hnm : n ≤ maxLen := Nat.le_trans hcp hmx
 have hok := hdOf_ok l
 have fok : (fst_ l).Ok := by
  unfold fst_
  split
  ·exact ⟨by decide, by decide, by decide, by decide, by decide, by decide, by decide, by decide, by decide, by decide⟩
  ·exact scOf_ok _ _ _ _
 have HCo := hid (fun W => countsOf_any (hdOf l) hok (fst_ l) fok W)
 have HCs : Hid (∀ W, Calls Tryz.prog 67 #[.slice A n c, (hdOf l).V, .int .u64 (nS l : Nat)] W (ChkR (scE l) W)) := hid fun W => by
  have := checkSects_any (hdOf l) hok A n c (nS l) W hnm
  rwa [show scEf (hdOf l).wide (hdOf l).sh (nS l) n = scE l by rw [hn]; rfl] at this
 have HCp : Hid (∀ W, Calls Tryz.prog 68 #[.slice A n c, (hdOf l).V, .int .u64 (nP l : Nat)] W (ChkR (pgE l) W)) := hid fun W => by
  have := checkProgs_any (hdOf l) hok A n c (nP l) W hnm
  rwa [show pgEf (hdOf l).wide (hdOf l).pn (hdOf l).sh (hdOf l).ph (nP l) n = pgE l by rw [hn]; rfl] at this
 have HPl := hid (fun W => places_any (lWide l) (lBig l) W)
 have HGS : Hid (∀ W, Grow w W → Calls Tryz.prog 64 #[.slice A n c, .int .u64 ((hdOf l).sh : Nat), .agg #[.bool (lWide l), .bool (lBig l)]] W (SGot l (hdOf l).sh (lWide l) (lBig l) W)) := hid fun W hg => sGet_any A n c l (hdOf l).sh (lWide l) (lBig l) W (hr.grow hg) hok.sh
 have HE : Hid (cntE l = if (hdOf l).sh ≠ 0 ∧ ¬ (hdOf l).sh + sSize (lWide l) ≤ l.length then (5, oSh (lWide l)) else if (scE l).1 ≠ 0 then scE l else if (pgE l).1 ≠ 0 then pgE l else if (hdOf l).st = 65535 ∧ (hdOf l).sh = 0 then (4, oSt (lWide l)) else (0, 0)) := hid rfl
 have HF : Hid (fst_ l = if (hdOf l).sh = 0 then sc0 else scOf l (hdOf l).sh (lWide l) (lBig l)) := hid rfl
 have HNP : Hid ((if (hdOf l).pn = 65535 then (fst_ l).inf else (hdOf l).pn) = nP l) := hid rfl
 have HNS : Hid ((if (hdOf l).sn = 0 then (fst_ l).sz else (hdOf l).sn) = nS l) := hid rfl
 have HNI : Hid ((if (hdOf l).st = 65535 then (fst_ l).li else (hdOf l).st) = nI l) := hid rfl
 rw [HNP.out, HNS.out, HNI.out] at HCo
 show Calls _ _ _ _ (CntR' (cntE l) (nP l) (nS l) (nI l) w)
 clear HNP HNS HNI hr hmx hcp
 generalize nP l = P at HCo HCp ⊢
 generalize nS l = S at HCo HCs ⊢
 generalize nI l = I at HCo ⊢
 generalize cntE l = E at HE ⊢
 generalize scE l = ES at HCs HE
 generalize pgE l = EP at HCp HE
 obtain ⟨y2, y3, y4, y5, y6, y7, y9, y10, y11, hC⟩ : ∃ y2 y3 y4 y5 y6 y7 y9 y10 y11 : Value, (hdOf l).C = #[.bool (lWide l), .bool (lBig l), y2, y3, y4, y5, y6, y7, .int .u64 ((hdOf l).sh : Nat), y9, y10, y11, .int .u16 ((hdOf l).st : Nat)] := ⟨_, _, _, _, _, _, _, _, _, rfl⟩
 unfold Hd.V at HCo HCs HCp ⊢
 rw [hC] at HCo HCs HCp ⊢
 have hst := hok.st
 unfold SGot at HGS
 generalize (hdOf l).sh = sh at HGS HE HF HCo HCs HCp ⊢
 generalize (hdOf l).st = st at hst HE HCo HCs HCp ⊢
 generalize lWide l = wide at HPl HGS HE HF HCo HCs HCp ⊢
 generalize lBig l = big at HPl HGS HF HCo HCs HCp ⊢
 generalize scOf l sh wide big = sc at HGS HF
 generalize l.length = len at HGS HE
 generalize fst_ l = fs at HF HCo
 generalize sSize wide = ssz at HGS HE
 clear hC hok fok hn hnm
 by_cases h0 : sh = 0
 ·have d0 : ((sh : Int) != 0) = false := by simp [h0]
  have d1 : ((sh : Int) == 0) = true := by simp [h0]
  have HS0 := hid h0
  rw [if_pos h0] at HF
  rw [if_neg (fun h => h.1 h0)] at HE
  clear h0 HGS
  obtain rfl : fs = sc0 := HF.out
  unfold Sc.V Sc.C sc0 at HCo
  clear HF
  go_enter Tryz.func26, Tryz.ntmps26
  go_wp2_with fail
  generalize hW : World.alloc _ _ = W0
  obtain ⟨b1, b2, b3, hg⟩ := blk3 hW
  clear hW
  have HM := hid b1
  have HT4 := hid b2
  have HB6 := hid b3
  have HG := hid hg
  have HG4 : Hid (w.heap.size ≤ w.heap.size + 1) := hid (by omega)
  have HG6a : Hid (w.heap.size + 1 ≠ w.heap.size + 1 + 1 ∧ w.heap.size ≠ w.heap.size + 1 + 1 ∧ w.heap.size ≤ w.heap.size + 1 + 1) := hid (by omega)
  clear b1 b2 b3 hg
  generalize w.heap.size + 1 + 1 = g6 at HB6 HG6a ⊢
  generalize w.heap.size + 1 = g4 at HT4 HG4 HG6a ⊢
  obtain ⟨gm, hgm⟩ : ∃ g, g = w.heap.size := ⟨_, rfl⟩
  have HGm := hid hgm
  rw [← hgm] at HM HG6a ⊢
  clear hgm
  clear HB6 HG6a
  refine (HCo.out _).mono ?_
  rintro e w3 ⟨rfl, hg⟩
  have HM3 := hid (HM.out.grow hg)
  have HT3 := hid (HT4.out.grow hg)
  have HG3 : Hid (Grow w w3) := hid (HG.out.trans hg)
  clear hg HM HT4 HG HCo
  have hal := Grow.of_alloc w3 (.cells #[.int .u64 (P : Int), .int .u64 (S : Int), .int .u64 (I : Int)] 86)
  have HMa := hid (HM3.out.grow hal)
  clear hal
  obtain ⟨v0, v1, v2, v3, v4, v5, v6, v7, v8, v9, v10, v11, v12⟩ := HMa.out.c13
  go_wp2_with fail
  clear v0 v1 v2 v3 v4 v5 v6 v7 v8 v9 v10 v11 v12 HMa
  generalize hW : World.alloc _ _ = w4
  obtain ⟨b8, hg⟩ := blk1 hW
  clear hW
  have HM4 := hid (HM3.out.grow hg)
  have HT5 := hid (HT3.out.grow hg)
  have HN4 := hid b8
  have HG5 : Hid (Grow w w4) := hid (HG3.out.trans hg)
  have HG8 : Hid (g4 ≠ w3.heap.size) := hid (by have := HT3.out.lt; omega)
  clear hg b8 HM3 HT3 HG3
  generalize w3.heap.size = g8 at HN4 HG8 ⊢
  refine (HCs.out _).mono ?_
  rintro e w5 ⟨v, rfl, hv, hg⟩
  have HV := hid hv
  have HM5 := hid (HM4.out.grow hg)
  have HT6 := hid (HT5.out.grow hg)
  have HN5 := hid (HN4.out.grow hg)
  have HG6 : Hid (Grow w w5) := hid (HG5.out.trans hg)
  clear hv hg HM4 HT5 HN4 HG5 HCs
  by_cases e1 : ES.1 = 0
  ·rw [if_neg (by omega)] at HE
   obtain ⟨rfl, e2⟩ : v = .nilIface ∧ ES.2 = 0 := by
    rcases HV.out with ⟨_, a, b⟩ | ⟨a, _⟩
    ·exact ⟨b, a⟩
    ·omega
   clear e1 e2 HV
   obtain ⟨v0, v1, v2, v3, v4, v5, v6, v7, v8, v9, v10, v11, v12⟩ := HM5.out.c13
   have n0 := HN5.out.at 0
   go_wp2_with fail
   clear v0 v1 v2 v3 v4 v5 v6 v7 v8 v9 v10 v11 v12 n0
   refine (HCp.out _).mono ?_
   rintro e w6 ⟨v, rfl, hv, hg⟩
   have HV := hid hv
   have HM6 := hid (HM5.out.grow hg)
   have HT7 := hid (HT6.out.grow hg)
   have HN6 := hid (HN5.out.grow hg)
   have HG7 : Hid (Grow w w6) := hid (HG6.out.trans hg)
   clear hv hg HM5 HT6 HN5 HG6 HCp
   by_cases e1 : EP.1 = 0
   ·rw [if_neg (by omega)] at HE
    obtain ⟨rfl, e2⟩ : v = .nilIface ∧ EP.2 = 0 := by
     rcases HV.out with ⟨_, a, b⟩ | ⟨a, _⟩
     ·exact ⟨b, a⟩
     ·omega
    clear e1 e2 HV
    have v12 := HM6.out.at 12
    have v8 := HM6.out.at 8
    have v0 := HM6.out.at 0
    have v1 := HM6.out.at 1
    have n0 := HN6.out.at 0
    have n1 := HN6.out.at 1
    have n2 := HN6.out.at 2
    by_cases e3 : st = 65535
    ·rw [if_pos ⟨e3, HS0.out⟩] at HE
     have d3 : ((st : Int) == 65535) = true := by simp; omega
     clear e3
     go_wp2_with fail
     clear v12 v8 v0 v1 n0 n1 n2 d3
     refine (HPl.out _).mono ?_
     rintro e w7 ⟨rfl, hg⟩
     have HT8 := hid (HT7.out.grow hg)
     have HG8b : Hid (Grow w w7) := hid (HG7.out.trans hg)
     clear hg
     have nf4 := num_4
     go_wp2_with fail
     clear nf4
     refine (fspot_4 _ _).mono ?_
     rintro e w8 ⟨bq, rfl, hs, hg⟩
     have HSp := hid hs
     have HT9 := hid (HT8.out.grow hg)
     have HG9 : Hid (Grow w w8) := hid (HG8b.out.trans hg)
     clear hs hg HT8 HG8b
     go_wp2_with (refine wpList_store_row rfl 86 (.tmp 4) (.tmp 62) rfl g4 #[.int .u64 0, .int .u64 0, .int .u64 0] rfl rfl _ _ HT9.out (by kernel_rfl) rfl (by simp [Value.oneCell']) ?_)
     refine cnt_ret (by rfl) (by rfl) (HT9.out.set _) ?_
     exact ⟨_, 0, 0, 0, rfl, Err.past (by rw [HE.out]; exact HSp.out.err (by decide)) HT9.out (fun k h => by simp at h) _, fun h0 => absurd h0 (by rw [HE.out]; simp), Grow.set HG9.out HG4.out _⟩
    ·rw [if_neg (fun h => e3 h.1)] at HE
     have d3 : ((st : Int) == 65535) = false := by simp; omega
     clear e3
     go_wp2_with (refine wpList_store_row rfl 86 (.tmp 4) (.tmp 69) rfl g4 #[.int .u64 (P : Int), .int .u64 (S : Int), .int .u64 (I : Int)] rfl rfl _ _ HT7.out (by kernel_rfl) rfl (by simp [Value.oneCell']) ?_)
     refine cnt_ret (by rfl) (by rfl) (HT7.out.set _) ?_
     exact ⟨_, P, S, I, rfl, by rw [HE.out]; exact .inl ⟨rfl, rfl, rfl⟩, fun _ => ⟨rfl, rfl, rfl⟩, Grow.set HG7.out HG4.out _⟩
   ·rw [if_pos e1] at HE
    have HV2 : Hid (0 < EP.1 ∧ Err w6 v EP.1 EP.2) := hid ⟨by omega, HV.out⟩
    obtain ⟨b, rfl⟩ : ∃ b, v = .iface 107 (.pointer (some ⟨b, 0, none⟩)) := by
     rcases HV.out with ⟨a, _⟩ | ⟨_, b, e, _⟩
     ·omega
     ·exact ⟨b, e⟩
    clear e1 HV
    go_wp2_with (refine wpList_store_row rfl 86 (.tmp 4) (.tmp 52) rfl g4 #[.int .u64 0, .int .u64 0, .int .u64 0] rfl rfl _ _ HT7.out (by kernel_rfl) rfl (by simp [Value.oneCell']) ?_)
    refine cnt_ret (by rfl) (by rfl) (HT7.out.set _) ?_
    exact ⟨_, 0, 0, 0, rfl, Err.past (by rw [HE.out]; exact HV2.out.2) HT7.out (fun k h => by simp at h) _, fun h0 => absurd h0 (by rw [HE.out]; have := HV2.out.1; omega), Grow.set HG7.out HG4.out _⟩
  ·rw [if_pos e1] at HE
   have HV2 : Hid (0 < ES.1 ∧ Err w5 v ES.1 ES.2) := hid ⟨by omega, HV.out⟩
   obtain ⟨b, rfl⟩ : ∃ b, v = .iface 107 (.pointer (some ⟨b, 0, none⟩)) := by
    rcases HV.out with ⟨a, _⟩ | ⟨_, b, e, _⟩
    ·omega
    ·exact ⟨b, e⟩
   clear e1 HV
   go_wp2_with (refine wpList_store_row rfl 86 (.tmp 4) (.tmp 43) rfl g4 #[.int .u64 0, .int .u64 0, .int .u64 0] rfl rfl _ _ HT6.out (by kernel_rfl) rfl (by simp [Value.oneCell']) ?_)
   refine cnt_ret (by rfl) (by rfl) (HT6.out.set _) ?_
   exact ⟨_, 0, 0, 0, rfl, Err.past (by rw [HE.out]; exact HV2.out.2) HT6.out (fun k h => by simp at h) _, fun h0 => absurd h0 (by rw [HE.out]; have := HV2.out.1; omega), Grow.set HG6.out HG4.out _⟩
 ·have d0 : ((sh : Int) != 0) = true := by simp; omega
  have d1 : ((sh : Int) == 0) = false := by simp; omega
  have HS0 : Hid (¬ sh = 0) := hid h0
  rw [if_neg h0] at HF
  obtain rfl : fs = sc := HF.out
  clear HF
  go_enter Tryz.func26, Tryz.ntmps26
  go_wp2_with fail
  generalize hW : World.alloc _ _ = W0
  obtain ⟨b1, b2, b3, hg⟩ := blk3 hW
  clear hW
  have HM := hid b1
  have HT4 := hid b2
  have HB6 := hid b3
  have HG := hid hg
  have HG4 : Hid (w.heap.size ≤ w.heap.size + 1) := hid (by omega)
  have HG6a : Hid (w.heap.size + 1 ≠ w.heap.size + 1 + 1 ∧ w.heap.size ≠ w.heap.size + 1 + 1 ∧ w.heap.size ≤ w.heap.size + 1 + 1) := hid (by omega)
  clear b1 b2 b3 hg
  generalize w.heap.size + 1 + 1 = g6 at HB6 HG6a ⊢
  generalize w.heap.size + 1 = g4 at HT4 HG4 HG6a ⊢
  obtain ⟨gm, hgm⟩ : ∃ g, g = w.heap.size := ⟨_, rfl⟩
  have HGm := hid hgm
  rw [← hgm] at HM HG6a ⊢
  clear hgm
  refine (HGS.out _ HG.out).mono ?_
  rintro e w2 (⟨hin, rfl, hg⟩ | ⟨hin, rfl, hg⟩)
  ·rw [if_neg (fun h => h.2 hin)] at HE
   have HM2 := hid (HM.out.grow hg)
   have HT2 := hid (HT4.out.grow hg)
   have HB2 := hid (HB6.out.grow hg)
   have HG2 : Hid (Grow w w2) := hid (HG.out.trans hg)
   clear hin hg h0 HM HT4 HB6 HG HGS
   obtain ⟨na, sty, sfl, ad, off, sz, li, inf, al, sen⟩ := fs
   unfold Sc.V at HCo ⊢
   have HSB := hid (HB2.out.set (Sc.mk na sty sfl ad off sz li inf al sen).C)
   have HM := hid (HM2.out.other HG6a.out.2.1 (Sc.mk na sty sfl ad off sz li inf al sen).C)
   have HT4 := hid (HT2.out.other HG6a.out.1 (Sc.mk na sty sfl ad off sz li inf al sen).C)
   have HG : Hid (Grow w (w2.setRow g6 (Sc.mk na sty sfl ad off sz li inf al sen).C)) := hid (Grow.set HG2.out (by have := HG6a.out.2.2; have := HGm.out; omega) _)
   unfold Sc.C at HCo
   obtain ⟨v0, v1, v2, v3, v4, v5, v6, v7, v8, v9, v10, v11, v12⟩ := HM.out.c13
   obtain ⟨z0, z1, z2, z3, z4, z5, z6, z7, z8, z9⟩ := Blk.c10 HSB.out
   go_wp2_with (refine wpList_store_row rfl 80 (.tmp 6) (.tmp 22) rfl g6 (Sc.mk na sty sfl ad off sz li inf al sen).C rfl rfl _ _ HB2.out (by kernel_rfl) rfl (Sc.one _) ?_)
   clear v0 v1 v2 v3 v4 v5 v6 v7 v8 v9 v10 v11 v12 z0 z1 z2 z3 z4 z5 z6 z7 z8 z9 HM2 HT2 HB2 HG2 HSB
   generalize w2.setRow g6 _ = w2b at HM HT4 HG ⊢
   refine (HCo.out _).mono ?_
   rintro e w3 ⟨rfl, hg⟩
   have HM3 := hid (HM.out.grow hg)
   have HT3 := hid (HT4.out.grow hg)
   have HG3 : Hid (Grow w w3) := hid (HG.out.trans hg)
   clear hg HM HT4 HG HCo
   have hal := Grow.of_alloc w3 (.cells #[.int .u64 (P : Int), .int .u64 (S : Int), .int .u64 (I : Int)] 86)
   have HMa := hid (HM3.out.grow hal)
   clear hal
   obtain ⟨v0, v1, v2, v3, v4, v5, v6, v7, v8, v9, v10, v11, v12⟩ := HMa.out.c13
   go_wp2_with fail
   clear v0 v1 v2 v3 v4 v5 v6 v7 v8 v9 v10 v11 v12 HMa
   generalize hW : World.alloc _ _ = w4
   obtain ⟨b8, hg⟩ := blk1 hW
   clear hW
   have HM4 := hid (HM3.out.grow hg)
   have HT5 := hid (HT3.out.grow hg)
   have HN4 := hid b8
   have HG5 : Hid (Grow w w4) := hid (HG3.out.trans hg)
   have HG8 : Hid (g4 ≠ w3.heap.size) := hid (by have := HT3.out.lt; omega)
   clear hg b8 HM3 HT3 HG3
   generalize w3.heap.size = g8 at HN4 HG8 ⊢
   refine (HCs.out _).mono ?_
   rintro e w5 ⟨v, rfl, hv, hg⟩
   have HV := hid hv
   have HM5 := hid (HM4.out.grow hg)
   have HT6 := hid (HT5.out.grow hg)
   have HN5 := hid (HN4.out.grow hg)
   have HG6 : Hid (Grow w w5) := hid (HG5.out.trans hg)
   clear hv hg HM4 HT5 HN4 HG5 HCs
   by_cases e1 : ES.1 = 0
   ·rw [if_neg (by omega)] at HE
    obtain ⟨rfl, e2⟩ : v = .nilIface ∧ ES.2 = 0 := by
     rcases HV.out with ⟨_, a, b⟩ | ⟨a, _⟩
     ·exact ⟨b, a⟩
     ·omega
    clear e1 e2 HV
    obtain ⟨v0, v1, v2, v3, v4, v5, v6, v7, v8, v9, v10, v11, v12⟩ := HM5.out.c13
    have n0 := HN5.out.at 0
    go_wp2_with fail
    clear v0 v1 v2 v3 v4 v5 v6 v7 v8 v9 v10 v11 v12 n0
    refine (HCp.out _).mono ?_
    rintro e w6 ⟨v, rfl, hv, hg⟩
    have HV := hid hv
    have HM6 := hid (HM5.out.grow hg)
    have HT7 := hid (HT6.out.grow hg)
    have HN6 := hid (HN5.out.grow hg)
    have HG7 : Hid (Grow w w6) := hid (HG6.out.trans hg)
    clear hv hg HM5 HT6 HN5 HG6 HCp
    by_cases e1 : EP.1 = 0
    ·rw [if_neg (by omega)] at HE
     obtain ⟨rfl, e2⟩ : v = .nilIface ∧ EP.2 = 0 := by
      rcases HV.out with ⟨_, a, b⟩ | ⟨a, _⟩
      ·exact ⟨b, a⟩
      ·omega
     clear e1 e2 HV
     have v12 := HM6.out.at 12
     have v8 := HM6.out.at 8
     have v0 := HM6.out.at 0
     have v1 := HM6.out.at 1
     have n0 := HN6.out.at 0
     have n1 := HN6.out.at 1
     have n2 := HN6.out.at 2
     by_cases e3 : st = 65535
     ·rw [if_neg (fun h => HS0.out h.2)] at HE
      have d3 : ((st : Int) == 65535) = true := by simp; omega
      clear e3
      go_wp2_with (refine wpList_store_row rfl 86 (.tmp 4) (.tmp 69) rfl g4 #[.int .u64 (P : Int), .int .u64 (S : Int), .int .u64 (I : Int)] rfl rfl _ _ HT7.out (by kernel_rfl) rfl (by simp [Value.oneCell']) ?_)
      refine cnt_ret (by rfl) (by rfl) (HT7.out.set _) ?_
      exact ⟨_, P, S, I, rfl, by rw [HE.out]; exact .inl ⟨rfl, rfl, rfl⟩, fun _ => ⟨rfl, rfl, rfl⟩, Grow.set HG7.out HG4.out _⟩
     ·rw [if_neg (fun h => e3 h.1)] at HE
      have d3 : ((st : Int) == 65535) = false := by simp; omega
      clear e3
      go_wp2_with (refine wpList_store_row rfl 86 (.tmp 4) (.tmp 69) rfl g4 #[.int .u64 (P : Int), .int .u64 (S : Int), .int .u64 (I : Int)] rfl rfl _ _ HT7.out (by kernel_rfl) rfl (by simp [Value.oneCell']) ?_)
      refine cnt_ret (by rfl) (by rfl) (HT7.out.set _) ?_
      exact ⟨_, P, S, I, rfl, by rw [HE.out]; exact .inl ⟨rfl, rfl, rfl⟩, fun _ => ⟨rfl, rfl, rfl⟩, Grow.set HG7.out HG4.out _⟩
    ·rw [if_pos e1] at HE
     have HV2 : Hid (0 < EP.1 ∧ Err w6 v EP.1 EP.2) := hid ⟨by omega, HV.out⟩
     obtain ⟨b, rfl⟩ : ∃ b, v = .iface 107 (.pointer (some ⟨b, 0, none⟩)) := by
      rcases HV.out with ⟨a, _⟩ | ⟨_, b, e, _⟩
      ·omega
      ·exact ⟨b, e⟩
     clear e1 HV
     go_wp2_with (refine wpList_store_row rfl 86 (.tmp 4) (.tmp 52) rfl g4 #[.int .u64 0, .int .u64 0, .int .u64 0] rfl rfl _ _ HT7.out (by kernel_rfl) rfl (by simp [Value.oneCell']) ?_)
     refine cnt_ret (by rfl) (by rfl) (HT7.out.set _) ?_
     exact ⟨_, 0, 0, 0, rfl, Err.past (by rw [HE.out]; exact HV2.out.2) HT7.out (fun k h => by simp at h) _, fun h0 => absurd h0 (by rw [HE.out]; have := HV2.out.1; omega), Grow.set HG7.out HG4.out _⟩
   ·rw [if_pos e1] at HE
    have HV2 : Hid (0 < ES.1 ∧ Err w5 v ES.1 ES.2) := hid ⟨by omega, HV.out⟩
    obtain ⟨b, rfl⟩ : ∃ b, v = .iface 107 (.pointer (some ⟨b, 0, none⟩)) := by
     rcases HV.out with ⟨a, _⟩ | ⟨_, b, e, _⟩
     ·omega
     ·exact ⟨b, e⟩
    clear e1 HV
    go_wp2_with (refine wpList_store_row rfl 86 (.tmp 4) (.tmp 43) rfl g4 #[.int .u64 0, .int .u64 0, .int .u64 0] rfl rfl _ _ HT6.out (by kernel_rfl) rfl (by simp [Value.oneCell']) ?_)
    refine cnt_ret (by rfl) (by rfl) (HT6.out.set _) ?_
    exact ⟨_, 0, 0, 0, rfl, Err.past (by rw [HE.out]; exact HV2.out.2) HT6.out (fun k h => by simp at h) _, fun h0 => absurd h0 (by rw [HE.out]; have := HV2.out.1; omega), Grow.set HG6.out HG4.out _⟩
  ·rw [if_pos ⟨h0, by omega⟩] at HE
   have HM2 := hid (HM.out.grow hg)
   have HT2 := hid (HT4.out.grow hg)
   have HB2 := hid (HB6.out.grow hg)
   have HG2 : Hid (Grow w w2) := hid (HG.out.trans hg)
   clear hin hg h0 HM HT4 HB6 HG HGS HCo HCs HCp
   unfold Sc.V
   have HM := hid (HM2.out.other HG6a.out.2.1 sc0.C)
   have HT4 := hid (HT2.out.other HG6a.out.1 sc0.C)
   have HG : Hid (Grow w (w2.setRow g6 sc0.C)) := hid (Grow.set HG2.out (by have := HG6a.out.2.2; have := HGm.out; omega) _)
   have v0 := HM.out.at 0
   have v1 := HM.out.at 1
   go_wp2_with (refine wpList_store_row rfl 80 (.tmp 6) (.tmp 22) rfl g6 sc0.C rfl rfl _ _ HB2.out (by kernel_rfl) rfl (Sc.one _) ?_)
   clear v0 v1 HM2 HT2 HB2 HG2 HM
   generalize w2.setRow g6 _ = w2b at HT4 HG ⊢
   refine (HPl.out _).mono ?_
   rintro e w7 ⟨rfl, hg⟩
   have HT8 := hid (HT4.out.grow hg)
   have HG8b : Hid (Grow w w7) := hid (HG.out.trans hg)
   clear hg HT4 HG
   have nf1 := num_1
   go_wp2_with fail
   clear nf1
   refine (fspot_5 _ _).mono ?_
   rintro e w8 ⟨bq, rfl, hs, hg⟩
   have HSp := hid hs
   have HT9 := hid (HT8.out.grow hg)
   have HG9 : Hid (Grow w w8) := hid (HG8b.out.trans hg)
   clear hs hg HT8 HG8b
   go_wp2_with (refine wpList_store_row rfl 86 (.tmp 4) (.tmp 26) rfl g4 #[.int .u64 0, .int .u64 0, .int .u64 0] rfl rfl _ _ HT9.out (by kernel_rfl) rfl (by simp [Value.oneCell']) ?_)
   refine cnt_ret (by rfl) (by rfl) (HT9.out.set _) ?_
   exact ⟨_, 0, 0, 0, rfl, Err.past (by rw [HE.out]; exact HSp.out.err (by decide)) HT9.out (fun k h => by simp at h) _, fun h0 => absurd h0 (by rw [HE.out]; simp), Grow.set HG9.out HG4.out _⟩
end Go.Proofs.YtlccbekalccahaaGreatDoor
namespace Go.Proofs.YtlccbekalccahaaGreatDoor
open Go.Lib (hid)
namespace Md
variable (m : Md)
theorem eL_step (h : m.segs.length ≤ 16) (k : Nat) : m.eL k ≤ m.eL (k + 1) := by
 rw [eL]
 split
 ·exact fin_ge (m.eL_le h k)
 ·exact Nat.le_refl _
theorem eO_step (h : m.segs.length ≤ 16) (k : Nat) : m.eO k ≤ m.eO (k + 1) := by
 rw [eO]
 split
 ·exact Nat.le_refl _
 split
 ·exact fin_ge (m.eO_le h k)
 ·exact Nat.le_refl _
theorem eS_step (h : m.segs.length ≤ 16) (k : Nat) : m.eS k ≤ m.eS (k + 1) := by
 rw [eS]
 split
 ·exact fin_ge (m.eS_le h k)
 ·exact Nat.le_refl _
end Md
theorem mono_of {f : Nat → Nat} (h : ∀ k, f k ≤ f (k + 1)) {a b : Nat} (hab : a ≤ b) : f a ≤ f b := by
 induction b with
 | zero => rw [show a = 0 by omega]; exact Nat.le_refl _
 | succ b ih =>
  rcases Nat.lt_or_ge a (b + 1) with h1 | h1
  ·exact Nat.le_trans (ih (by omega)) (h b)
  ·rw [show a = b + 1 by omega]; exact Nat.le_refl _
def Ap (x y : Nat × Nat) : Prop := x.2 = 0 ∨ y.2 = 0 ∨ x.1 + x.2 ≤ y.1 ∨ y.1 + y.2 ≤ x.1
def ownS (m : Md) (k : Nat) : List (Nat × Nat) := if (m.sg k).pl.inn = -1 then [(m.P2 k, (m.sg k).pl.size)] else []
def ownT (m : Md) (k : Nat) : List (Nat × Nat) := if (m.se k).pl.inn = -1 then [(m.P3 k, (m.se k).pl.size)] else []
def segP (m : Md) : Nat → List (Nat × Nat)
 | 0 => []
 | k + 1 => segP m k ++ ownS m k
def secP (m : Md) : Nat → List (Nat × Nat)
 | 0 => []
 | k + 1 => secP m k ++ ownT m k
def baseP (m : Md) : List (Nat × Nat) := [(0, hSize m.wide), (m.phoff, byWide m.wide 32 56 * m.segs.length)] ++ (if 0 < m.secs.length then [(m.shoff, byWide m.wide 40 64 * (m.secs.length + 1))] else [])
def allP (m : Md) : List (Nat × Nat) := baseP m ++ segP m m.segs.length ++ secP m m.secs.length
structure Planned (m : Md) : Prop where
 ok : PlOk m
 load : ∀ k, k < m.segs.length → (m.sg k).typ = 1 → (m.sg k).pl.inn = -1
 fits : m.eT ≤ 65536
theorem Planned.eS_in {m : Md} (h : Planned m) {k : Nat} (hk : k ≤ m.secs.length) : m.eS k ≤ 65536 := by
 have h1 := h.fits
 have h2 : m.eS k ≤ m.eS m.secs.length := mono_of (m.eS_step h.ok.n1) hk
 have h3 : m.eS m.secs.length ≤ m.eT := by
  unfold Md.eT
  split
  ·exact fin_ge (m.eS_le h.ok.n1 _)
  ·exact Nat.le_refl _
 omega
theorem Planned.eO_in {m : Md} (h : Planned m) {k : Nat} (hk : k ≤ m.segs.length) : m.eO k ≤ m.eO m.segs.length ∧ m.eO m.segs.length ≤ 65536 := by
 have h1 := h.eS_in (k := 0) (by omega)
 exact ⟨mono_of (m.eO_step h.ok.n1) hk, h1⟩
theorem Planned.eL_in {m : Md} (h : Planned m) {k : Nat} (hk : k ≤ m.segs.length) : m.eL k ≤ m.eL m.segs.length ∧ m.eL m.segs.length ≤ 65536 := by
 have h1 := (h.eO_in (k := 0) (by omega))
 have h2 : m.eO 0 = m.eL m.segs.length := rfl
 exact ⟨mono_of (m.eL_step h.ok.n1) hk, by omega⟩
theorem Planned.load_at {m : Md} (h : Planned m) {k : Nat} (hk : k < m.segs.length) (ht : (m.sg k).typ = 1) : m.eL k ≤ m.P2 k ∧ m.P2 k + (m.sg k).pl.size = m.eL (k + 1) ∧ m.P2 k = nxt (m.eL k) (m.sg k).vaddr (m.sg k).align := by
 have h1 := h.eL_in (k := k + 1) hk
 have e : m.eL (k + 1) = fin (m.eL k) (m.sg k).vaddr (m.sg k).align (m.sg k).pl.size := by rw [Md.eL, if_pos ht]
 have hin := fin_in (e := m.eL k) (v := (m.sg k).vaddr) (a := (m.sg k).align) (n := (m.sg k).pl.size) (by rw [← e]; omega)
 have e2 : m.P2 k = plc (m.eL k) (m.sg k).vaddr (m.sg k).align := by unfold Md.P2 Md.P1; rw [if_pos ht, if_pos ht]
 rw [e2, e]
 exact ⟨hin.2.2.2, hin.2.2.1, hin.1⟩
theorem Planned.other_at {m : Md} (h : Planned m) {k : Nat} (hk : k < m.segs.length) (ht : (m.sg k).typ ≠ 1) (hi : (m.sg k).pl.inn = -1) : m.eO k ≤ m.P2 k ∧ m.P2 k + (m.sg k).pl.size = m.eO (k + 1) := by
 have h1 := h.eO_in (k := k + 1) hk
 have e : m.eO (k + 1) = fin (m.eO k) 0 8 (m.sg k).pl.size := by rw [Md.eO, if_neg ht, if_pos hi]
 have hin := fin_in (e := m.eO k) (v := 0) (a := 8) (n := (m.sg k).pl.size) (by rw [← e]; omega)
 have e2 : m.P2 k = plc (m.eO k) 0 8 := by unfold Md.P2; rw [if_neg ht, if_pos hi]
 rw [e2, e]
 exact ⟨hin.2.2.2, hin.2.2.1⟩
theorem Planned.sec_at {m : Md} (h : Planned m) {k : Nat} (hk : k < m.secs.length) (hi : (m.se k).pl.inn = -1) : m.eS k ≤ m.P3 k ∧ m.P3 k + (m.se k).pl.size = m.eS (k + 1) := by
 have h1 := h.eS_in (k := k + 1) hk
 have e : m.eS (k + 1) = fin (m.eS k) 0 8 (m.se k).pl.size := by rw [Md.eS, if_pos hi]
 have hin := fin_in (e := m.eS k) (v := 0) (a := 8) (n := (m.se k).pl.size) (by rw [← e]; exact h1)
 have e2 : m.P3 k = plc (m.eS k) 0 8 := by unfold Md.P3; rw [if_pos hi]
 rw [e2, e]
 exact ⟨hin.2.2.2, hin.2.2.1⟩
theorem Planned.segs_in {m : Md} (h : Planned m) : ∀ {k : Nat}, k ≤ m.segs.length → ∀ x ∈ segP m k, (m.e1 ≤ x.1 ∧ x.1 + x.2 ≤ m.eL k) ∨ (m.eL m.segs.length ≤ x.1 ∧ x.1 + x.2 ≤ m.eO k)
 | 0, _, x, hx => by simp [segP] at hx
 | k + 1, hk, x, hx => by
  have s1 := m.eL_step h.ok.n1 k
  have s2 := m.eO_step h.ok.n1 k
  rw [segP] at hx
  rcases List.mem_append.1 hx with hx | hx
  ·rcases Planned.segs_in h (by omega) x hx with a | a
   ·exact .inl ⟨a.1, by omega⟩
   ·exact .inr ⟨a.1, by omega⟩
  ·unfold ownS at hx
   split at hx
   ·rename_i hi
    obtain rfl : x = (m.P2 k, (m.sg k).pl.size) := by simpa using hx
    by_cases ht : (m.sg k).typ = 1
    ·have a := h.load_at (by omega) ht
     have b : m.eL 0 ≤ m.eL k := mono_of (m.eL_step h.ok.n1) (by omega)
     have c : m.eL 0 = m.e1 := rfl
     exact .inl ⟨by show m.e1 ≤ m.P2 k; omega, by show m.P2 k + _ ≤ _; omega⟩
    ·have a := h.other_at (by omega) ht hi
     have b : m.eO 0 ≤ m.eO k := mono_of (m.eO_step h.ok.n1) (by omega)
     have c : m.eO 0 = m.eL m.segs.length := rfl
     exact .inr ⟨by show _ ≤ m.P2 k; omega, by show m.P2 k + _ ≤ _; omega⟩
   ·simp at hx
theorem Planned.segs_ap {m : Md} (h : Planned m) : ∀ {k : Nat}, k ≤ m.segs.length → (segP m k).Pairwise Ap
 | 0, _ => by simp [segP]
 | k + 1, hk => by
  rw [segP, List.pairwise_append]
  refine ⟨Planned.segs_ap h (by omega), by unfold ownS; split <;> simp, fun x hx y hy => ?_⟩
  have hxin := h.segs_in (k := k) (by omega) x hx
  unfold ownS at hy
  split at hy
  ·rename_i hi
   obtain rfl : y = (m.P2 k, (m.sg k).pl.size) := by simpa using hy
   unfold Ap
   show x.2 = 0 ∨ (m.sg k).pl.size = 0 ∨ x.1 + x.2 ≤ m.P2 k ∨ m.P2 k + (m.sg k).pl.size ≤ x.1
   by_cases ht : (m.sg k).typ = 1
   ·have a := h.load_at (by omega) ht
    have b := h.eL_in (k := k + 1) hk
    omega
   ·have a := h.other_at (by omega) ht hi
    have b := h.eL_in (k := k) (by omega)
    have c : m.eO 0 ≤ m.eO k := mono_of (m.eO_step h.ok.n1) (by omega)
    have d : m.eO 0 = m.eL m.segs.length := rfl
    omega
  ·simp at hy
theorem Planned.secs_in {m : Md} (h : Planned m) : ∀ {k : Nat}, k ≤ m.secs.length → ∀ x ∈ secP m k, m.eS 0 ≤ x.1 ∧ x.1 + x.2 ≤ m.eS k
 | 0, _, x, hx => by simp [secP] at hx
 | k + 1, hk, x, hx => by
  have s1 := m.eS_step h.ok.n1 k
  rw [secP] at hx
  rcases List.mem_append.1 hx with hx | hx
  ·have a := Planned.secs_in h (by omega) x hx
   exact ⟨a.1, by omega⟩
  ·unfold ownT at hx
   split at hx
   ·rename_i hi
    obtain rfl : x = (m.P3 k, (m.se k).pl.size) := by simpa using hx
    have a := h.sec_at (by omega) hi
    have b : m.eS 0 ≤ m.eS k := mono_of (m.eS_step h.ok.n1) (by omega)
    exact ⟨by show _ ≤ m.P3 k; omega, by show m.P3 k + _ ≤ _; omega⟩
   ·simp at hx
theorem Planned.secs_ap {m : Md} (h : Planned m) : ∀ {k : Nat}, k ≤ m.secs.length → (secP m k).Pairwise Ap
 | 0, _ => by simp [secP]
 | k + 1, hk => by
  rw [secP, List.pairwise_append]
  refine ⟨Planned.secs_ap h (by omega), by unfold ownT; split <;> simp, fun x hx y hy => ?_⟩
  have hxin := h.secs_in (k := k) (by omega) x hx
  unfold ownT at hy
  split at hy
  ·rename_i hi
   obtain rfl : y = (m.P3 k, (m.se k).pl.size) := by simpa using hy
   unfold Ap
   show x.2 = 0 ∨ (m.se k).pl.size = 0 ∨ x.1 + x.2 ≤ m.P3 k ∨ m.P3 k + (m.se k).pl.size ≤ x.1
   have a := h.sec_at (by omega) hi
   omega
  ·simp at hy
theorem Planned.base_in {m : Md} (h : Planned m) : ∀ x ∈ baseP m, (x = (0, hSize m.wide)) ∨ (x.2 = 0 ∨ (hSize m.wide ≤ x.1 ∧ x.1 + x.2 ≤ m.e1)) ∨ (m.eS m.secs.length ≤ x.1 ∧ x.1 + x.2 = m.eT) := fun x hx => by
 unfold baseP at hx
 rcases List.mem_append.1 hx with hx | hx
 ·simp only [List.mem_cons, List.not_mem_nil, or_false] at hx
  rcases hx with rfl | rfl
  ·exact .inl rfl
  ·refine .inr (.inl ?_)
   show byWide m.wide 32 56 * m.segs.length = 0 ∨ (hSize m.wide ≤ m.phoff ∧ m.phoff + byWide m.wide 32 56 * m.segs.length ≤ m.e1)
   unfold Md.phoff Md.e1
   by_cases h0 : 0 < m.segs.length
   ·rw [if_pos h0]
    exact .inr ⟨Nat.le_refl _, Nat.le_refl _⟩
   ·rw [show m.segs.length = 0 by omega]
    exact .inl rfl
 ·split at hx
  ·rename_i h0
   obtain rfl : x = (m.shoff, byWide m.wide 40 64 * (m.secs.length + 1)) := by simpa using hx
   refine .inr (.inr ?_)
   show m.eS m.secs.length ≤ m.shoff ∧ m.shoff + byWide m.wide 40 64 * (m.secs.length + 1) = m.eT
   have hf := h.fits
   have e : m.eT = fin (m.eS m.secs.length) 0 8 (byWide m.wide 40 64 * (m.secs.length + 1)) := by unfold Md.eT; rw [if_pos h0]
   have e2 : m.shoff = plc (m.eS m.secs.length) 0 8 := by unfold Md.shoff; rw [if_pos h0]
   have hin := fin_in (e := m.eS m.secs.length) (v := 0) (a := 8) (n := byWide m.wide 40 64 * (m.secs.length + 1)) (by rw [← e]; exact hf)
   rw [e, e2]
   exact ⟨hin.2.2.2, hin.2.2.1⟩
  ·simp at hx
theorem Planned.order {m : Md} (h : Planned m) : hSize m.wide ≤ m.e1 ∧ m.e1 ≤ m.eL m.segs.length ∧ m.eL m.segs.length ≤ m.eO m.segs.length ∧ m.eO m.segs.length = m.eS 0 ∧ m.eS 0 ≤ m.eS m.secs.length ∧ m.eS m.secs.length ≤ m.eT := by
 have a : m.eL 0 ≤ m.eL m.segs.length := mono_of (m.eL_step h.ok.n1) (by omega)
 have b : m.eO 0 ≤ m.eO m.segs.length := mono_of (m.eO_step h.ok.n1) (by omega)
 have c : m.eS 0 ≤ m.eS m.secs.length := mono_of (m.eS_step h.ok.n1) (by omega)
 have d : m.eS m.secs.length ≤ m.eT := by
  unfold Md.eT
  split
  ·exact fin_ge (m.eS_le h.ok.n1 _)
  ·exact Nat.le_refl _
 exact ⟨Nat.le_add_right _ _, a, b, rfl, c, d⟩
theorem Planned.base_ap {m : Md} (h : Planned m) : (baseP m).Pairwise Ap := by
 have ho := h.order
 have hb := h.base_in
 unfold baseP
 rw [List.pairwise_append]
 refine ⟨?_, by split <;> simp, fun x hx y hy => ?_⟩
 ·simp only [List.pairwise_cons, List.mem_cons, List.not_mem_nil, or_false, forall_eq, List.Pairwise.nil, and_true, false_implies, implies_true]
  have h1 := hb (m.phoff, byWide m.wide 32 56 * m.segs.length) (by unfold baseP; simp)
  unfold Ap
  show hSize m.wide = 0 ∨ byWide m.wide 32 56 * m.segs.length = 0 ∨ 0 + hSize m.wide ≤ m.phoff ∨ _
  unfold Md.phoff
  by_cases h0 : 0 < m.segs.length
  ·rw [if_pos h0]; omega
  ·rw [show m.segs.length = 0 by omega]; simp
 ·split at hy
  ·rename_i h0
   obtain rfl : y = (m.shoff, byWide m.wide 40 64 * (m.secs.length + 1)) := by simpa using hy
   have h1 := hb (m.shoff, byWide m.wide 40 64 * (m.secs.length + 1)) (by unfold baseP; rw [if_pos h0]; simp)
   have e2 : m.eS m.secs.length ≤ m.shoff := by
    have hf := h.fits
    have e : m.eT = fin (m.eS m.secs.length) 0 8 (byWide m.wide 40 64 * (m.secs.length + 1)) := by unfold Md.eT; rw [if_pos h0]
    have e2 : m.shoff = plc (m.eS m.secs.length) 0 8 := by unfold Md.shoff; rw [if_pos h0]
    have hin := fin_in (e := m.eS m.secs.length) (v := 0) (a := 8) (n := byWide m.wide 40 64 * (m.secs.length + 1)) (by rw [← e]; exact hf)
    rw [e2]
    exact hin.2.2.2
   unfold Ap
   show x.2 = 0 ∨ _ ∨ x.1 + x.2 ≤ m.shoff ∨ _
   simp only [List.mem_cons, List.not_mem_nil, or_false] at hx
   rcases hx with rfl | rfl
   ·refine .inr (.inr (.inl ?_))
    show 0 + hSize m.wide ≤ m.shoff
    omega
   ·by_cases h00 : 0 < m.segs.length
    ·refine .inr (.inr (.inl ?_))
     show m.phoff + byWide m.wide 32 56 * m.segs.length ≤ m.shoff
     have e3 : m.phoff + byWide m.wide 32 56 * m.segs.length = m.e1 := by unfold Md.phoff Md.e1; rw [if_pos h00]
     omega
    ·refine .inl ?_
     show byWide m.wide 32 56 * m.segs.length = 0
     rw [show m.segs.length = 0 by omega, Nat.mul_zero]
  ·simp at hy
theorem Planned.all_in {m : Md} (h : Planned m) : ∀ x ∈ allP m, x.2 = 0 ∧ x.1 ≤ m.eT ∨ x.1 + x.2 ≤ m.eT := fun x hx => by
 have ho := h.order
 unfold allP at hx
 rcases List.mem_append.1 hx with hx | hx
 ·rcases List.mem_append.1 hx with hx | hx
  ·rcases h.base_in x hx with rfl | a | a
   ·refine .inr ?_
    show 0 + hSize m.wide ≤ _
    omega
   ·rcases a with a | a
    ·refine .inl ⟨a, ?_⟩
     unfold baseP at hx
     rcases List.mem_append.1 hx with hx | hx
     ·simp only [List.mem_cons, List.not_mem_nil, or_false] at hx
      rcases hx with rfl | rfl
      ·exact Nat.zero_le _
      ·show m.phoff ≤ _
       unfold Md.phoff
       split <;> omega
     ·split at hx
      ·rename_i h0
       obtain rfl : x = (m.shoff, byWide m.wide 40 64 * (m.secs.length + 1)) := by simpa using hx
       exfalso
       have : 40 ≤ byWide m.wide 40 64 := by unfold byWide; split <;> omega
       have h2 := Nat.mul_le_mul this (show 1 ≤ m.secs.length + 1 by omega)
       have : byWide m.wide 40 64 * (m.secs.length + 1) = 0 := a
       omega
      ·simp at hx
    ·exact .inr (by omega)
   ·exact .inr (by omega)
  ·rcases h.segs_in (Nat.le_refl _) x hx with a | a
   ·exact .inr (by omega)
   ·exact .inr (by omega)
 ·have a := h.secs_in (Nat.le_refl _) x hx
  exact .inr (by omega)
theorem Planned.all_ap {m : Md} (h : Planned m) : (allP m).Pairwise Ap := by
 have ho := h.order
 unfold allP
 rw [List.pairwise_append, List.pairwise_append]
 refine ⟨⟨h.base_ap, h.segs_ap (Nat.le_refl _), fun x hx y hy => ?_⟩, h.secs_ap (Nat.le_refl _), fun x hx y hy => ?_⟩
 ·have b := h.segs_in (Nat.le_refl _) y hy
  unfold Ap
  rcases h.base_in x hx with rfl | a | a
  ·refine .inr (.inr (.inl ?_))
   show 0 + hSize m.wide ≤ _
   omega
  ·omega
  ·omega
 ·have b := h.secs_in (Nat.le_refl _) y hy
  unfold Ap
  rcases List.mem_append.1 hx with hx | hx
  ·rcases h.base_in x hx with rfl | a | a
   ·refine .inr (.inr (.inl ?_))
    show 0 + hSize m.wide ≤ _
    omega
   ·omega
   ·omega
  ·rcases h.segs_in (Nat.le_refl _) x hx with a | a
   ·omega
   ·omega
theorem segP_len (m : Md) : ∀ k, (segP m k).length ≤ k
 | 0 => by simp [segP]
 | k + 1 => by
  have := segP_len m k
  rw [segP, List.length_append]
  have : (ownS m k).length ≤ 1 := by unfold ownS; split <;> simp
  omega
theorem secP_len (m : Md) : ∀ k, (secP m k).length ≤ k
 | 0 => by simp [secP]
 | k + 1 => by
  have := secP_len m k
  rw [secP, List.length_append]
  have : (ownT m k).length ≤ 1 := by unfold ownT; split <;> simp
  omega
theorem baseP_len (m : Md) : (baseP m).length ≤ 3 := by
 unfold baseP
 rw [List.length_append]
 split <;> simp
end Go.Proofs.YtlccbekalccahaaGreatDoor
namespace Go.Proofs.YtlccbekalccahaaGreatDoor
open Go.Lib (hid)
open Go.RowKit
theorem segC_own {m : Md} {s : Sg} (h : m.segC s = 0) (ht : s.typ = 1) : s.pl.inn = -1 := by
 unfold Md.segC at h
 split at h
 ·omega
 split at h
 ·omega
 split at h
 ·omega
 split at h
 ·omega
 ·rename_i h1
  omega
theorem planned_of {m : Md} (ok : m.Ok) (h : m.planC = 0) (hl : ∀ s ∈ m.segs, s.pl.own.length ≤ maxLen) (hl2 : ∀ s ∈ m.secs, s.pl.own.length ≤ maxLen) : Planned m := by
 unfold Md.planC at h
 split at h
 ·omega
 ·rename_i h1
  have hc : m.chk = 0 := by omega
  split at h
  ·rename_i h2
   exact ⟨plan_ok ok hc hl hl2, fun k hk ht => segC_own ((Md.chk_zero hc).1 _ (m.sg_mem hk)) ht, h2⟩
  ·omega
theorem Planned.seg_in {m : Md} (h : Planned m) {k : Nat} (hk : k < m.segs.length) (hi : (m.sg k).pl.inn ≠ -1) : (m.sg k).typ ≠ 1 ∧ ∃ i : Nat, (m.sg k).pl.inn = (i : Int) ∧ i < m.segs.length ∧ m.P2 k = m.P2 i + (m.sg k).pl.off ∧ m.P2 k < 18446744073709551616 := by
 have ht : (m.sg k).typ ≠ 1 := fun e => hi (h.load k hk e)
 refine ⟨ht, ?_⟩
 rcases (h.ok.sg k hk).pl ht with a | ⟨i, a, b, c, d⟩
 ·exact absurd a hi
 ·have e1 : m.P2 i = m.P1 i := by unfold Md.P2; rw [if_pos c]
  have e2 : m.P2 k = m.P1 i + (m.sg k).pl.off := by unfold Md.P2; rw [if_neg ht, if_neg hi, a]; rfl
  have := m.P1_le i
  exact ⟨i, a, b, by rw [e1, e2], by omega⟩
theorem Planned.sec_in {m : Md} (h : Planned m) {k : Nat} (hk : k < m.secs.length) (hi : (m.se k).pl.inn ≠ -1) : ∃ i : Nat, (m.se k).pl.inn = (i : Int) ∧ i < m.segs.length ∧ m.P3 k = m.P2 i + (m.se k).pl.off ∧ m.P3 k < 18446744073709551616 := by
 rcases h.ok.se k hk with a | ⟨i, a, b, c⟩
 ·exact absurd a hi
 ·have e2 : m.P3 k = m.P2 i + (m.se k).pl.off := by unfold Md.P3; rw [if_neg hi, a]; rfl
  exact ⟨i, a, b, e2, by omega⟩
theorem Planned.P2_lt {m : Md} (h : Planned m) {k : Nat} (hk : k < m.segs.length) (hi : (m.sg k).pl.inn = -1) : m.P2 k + (m.sg k).pl.size ≤ 65536 := by
 by_cases ht : (m.sg k).typ = 1
 ·have a := h.load_at hk ht
  have b := h.eL_in (k := k + 1) hk
  omega
 ·have a := h.other_at hk ht hi
  have b := h.eO_in (k := k + 1) hk
  omega
theorem Planned.P3_lt {m : Md} (h : Planned m) {k : Nat} (hk : k < m.secs.length) (hi : (m.se k).pl.inn = -1) : m.P3 k + (m.se k).pl.size ≤ 65536 := by
 have a := h.sec_at hk hi
 have b := h.eS_in (k := k + 1) hk
 omega
end Go.Proofs.YtlccbekalccahaaGreatDoor
