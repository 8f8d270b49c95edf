/-
  Several texts in one: The contract of file; What was written is read by Parse; and the document's example (up).
-/
import Derived.Test.YtfbimboemahhhaaGreatDoorTfG34
import Derived.Test.YtfbimboemahhhaaGreatDoorTfG1
import Derived.Test.YtfbimboemahhhaaGreatDoorTfG27
import Derived.Test.YtfbimboemahhhaaGreatDoorTfG29
namespace Go.Proofs.YtfbimboemahhhaaGreatDoor
open Go.Lib (hid)
open Go.RowKit
set_option maxRecDepth 100000
set_option linter.unusedVariables false
def ParseR (l : List UInt8) (w : World) (e : Ending) (w' : World) : Prop :=
 ∃ c p m v A1 n1 c1 A2 n2 c2, e = .returned (.tuple #[.agg (mdC m (.slice A1 n1 c1) (.slice A2 n2 c2)), v]) ∧ PTold l c p m ∧ Err w' v c p ∧ ZR sgK w' w'.heap.size A1 n1 c1 m.segs ∧ ZR seK w' w'.heap.size A2 n2 c2 m.secs ∧ Grow w w'
theorem parse_ret {K : Ending → World → Prop} {W : World} {tmps : Array Value} {g : Nat} {ev : Value} {cs : Array Value} (ht : tmps.getD 2 undef = .pointer (some ⟨g, 0, none⟩)) (he : tmps.getD 3 undef = ev)
  (hx : Blk W g 51 cs) (hn : cs.size = 11) (hk : K (.returned (.tuple #[.agg cs, ev])) W) : bodyPost Tryz.prog Tryz.f11 K .ret ⟨tmps, []⟩ W := by
 refine bodyPost_ret (v := .tuple #[.agg cs, ev]) ?_ rfl hk
 rw [results_cell_tmp rfl, ht, he]
 simp [asAddr, Result.andThen, hx.var _ _ Tryz.underlying51 rfl (by rw [hn]; kernel_rfl)]
theorem parse_no {l : List UInt8} {w W : World} {c p g : Nat} {v : Value} {t : TypeId} {cs : Array Value} (ht : PTold l c p mdN) (he : Err W v c p) (hb : Blk W g t cs) (hne : ∀ k : Int, cs[0]? ≠ some (.int .i64 k)) (hg : Grow w W) (hge : w.heap.size ≤ g) (cs' : Array Value) :
  ParseR l w (.returned (.tuple #[.agg #[.bool false, .bool false, .int .u8 0, .int .u8 0, .int .u16 0, .int .u16 0, .int .u32 0, .int .u64 0, .slice none 0 0, .slice none 0 0, .int .i64 0], v])) (W.setRow g cs') :=
 ⟨c, p, mdN, v, none, 0, 0, none, 0, 0, rfl, ht, he.past hb hne cs', ZR.nil, ZR.nil, hg.set hge cs'⟩
theorem fspot_big (w : World) : Calls Tryz.prog 40 #[.int .i64 65536, .int .i64 8] w fun e w' => ∃ b, e = .returned (.iface 126 (.pointer (some ⟨b, 0, none⟩))) ∧ Spt w' (.iface 126 (.pointer (some ⟨b, 0, none⟩))) 8 65536 ∧ Grow w w' := fspot_any 65536 8 w
theorem fspot_0 (c : Nat) (w : World) : Calls Tryz.prog 40 #[.int .i64 0, .int .i64 (c : Int)] w fun e w' => ∃ b, e = .returned (.iface 126 (.pointer (some ⟨b, 0, none⟩))) ∧ Spt w' (.iface 126 (.pointer (some ⟨b, 0, none⟩))) c 0 ∧ Grow w w' := fspot_any 0 c w
theorem u8_lt (b : UInt8) : b.toNat < 256 := b.toNat_lt
theorem ownPl_ok (l : List UInt8) (off n : Nat) (hn : n < 18446744073709551616) : (ownPl l off n).Ok := by
 unfold ownPl
 split
 ·exact ⟨by unfold I64; decide, by decide, by decide⟩
 ·exact ⟨by unfold I64; show -9223372036854775808 ≤ (-1 : Int) ∧ (-1 : Int) ≤ 9223372036854775807; decide, by show 0 < _; decide, hn⟩
theorem fstP_lt {l : List UInt8} {off n : Nat} : ∀ {i k j : Nat}, fstP l off n i k = some j → j < i + k
 | i, 0, j, h => by simp [fstP] at h
 | i, k + 1, j, h => by
  rw [fstP] at h
  split at h
  ·have : i = j := by simpa using h
   omega
  ·have := fstP_lt h
   omega
theorem findPl_ok (l : List UInt8) (off n : Nat) (ho : off < 18446744073709551616) (hn : n < 18446744073709551616) (hp : nP l < 4294967296) : (findPl l off n).Ok := by
 unfold findPl
 split
 ·exact ownPl_ok l off n hn
 ·split
  ·rename_i i h
   have := fstP_lt h
   exact ⟨by unfold I64; show -9223372036854775808 ≤ (i : Int) ∧ (i : Int) ≤ 9223372036854775807; omega, by show off - _ < _; omega, hn⟩
  ·exact ownPl_ok l off n hn
theorem fst_ok (l : List UInt8) : (fst_ l).Ok := by
 unfold fst_
 split
 ·exact ⟨by decide, by decide, by decide, by decide, by decide, by decide, by decide, by decide, by decide, by decide⟩
 ·exact scOf_ok _ _ _ _
theorem nP_lt (l : List UInt8) : nP l < 4294967296 := by
 have h := hdOf_ok l
 have f := fst_ok l
 unfold nP
 split
 ·exact f.inf
 ·have := h.pn; omega
theorem nI_lt (l : List UInt8) : nI l < 4294967296 := by
 have h := hdOf_ok l
 have f := fst_ok l
 unfold nI
 split
 ·exact f.li
 ·have := h.st; omega
theorem mdF_ok (l : List UInt8) : (mdF l).Ok := by
 have h := hdOf_ok l
 have hp := nP_lt l
 refine ⟨u8_lt _, u8_lt _, h.ty, h.ma, h.fl, h.en, fun s hs => ?_, fun s hs => ?_, ?_⟩
 ·obtain ⟨i, _, rfl⟩ := List.mem_map.1 hs
  have p : (pgs l i).Ok := pgOf_ok _ _ _ _
  refine ⟨p.ty, p.fl, p.va, p.pa, p.ms, p.al, ?_⟩
  show (if (pgs l i).ty = 1 then _ else _ : Pl).Ok
  split
  ·exact ownPl_ok _ _ _ p.fs
  ·exact findPl_ok _ _ _ p.off p.fs hp
 ·obtain ⟨i, _, rfl⟩ := List.mem_map.1 hs
  have p : (scs l (i + 1)).Ok := scOf_ok _ _ _ _
  refine ⟨p.na, p.ty, p.fl, p.ad, p.sz, p.li, p.inf, p.al, p.en, ?_⟩
  show (if (scs l (i + 1)).ty = 0 ∨ (scs l (i + 1)).ty = 8 then _ else _ : Pl).Ok
  split
  ·exact ownPl_ok _ _ _ (by decide)
  split
  ·exact ownPl_ok _ _ _ p.sz
  ·exact findPl_ok _ _ _ p.off p.sz hp
 ·have := nI_lt l
  unfold I64
  show -9223372036854775808 ≤ ((nI l : Nat) : Int) ∧ ((nI l : Nat) : Int) ≤ 9223372036854775807
  omega
set_option maxHeartbeats 20000000 in
theorem parse_any (l : List UInt8) (A : Option Addr) (n c : Nat) (w : World) (hr : RB w w.heap.size A n c l) (hd : Door w) :
  Calls Tryz.prog 11 #[.slice A n c] w (ParseR l w) := by
 have hn := hr.len
 have hcp := hr.cap
 have hmx := hr.max
 unfold maxLen at hmx
 by_cases hbig : 65536 < l.length
 ·have HT : Hid (PTold l 8 65536 mdN) := hid (.inl ⟨hbig, rfl, rfl, rfl⟩)
  have d : decide ((65536 : Int) < (n : Int)) = true := decide_eq_true (by omega)
  have d' : decide (65536 < n) = true := decide_eq_true (by omega)
  clear hbig hn hr
  go_enter Tryz.func11, Tryz.ntmps11
  go_wp2_with fail
  generalize hW : World.alloc _ _ = W0
  obtain ⟨b0, hg⟩ := blk1 hW
  clear hW
  have HG2 : Hid (w.heap.size ≤ w.heap.size) := hid (Nat.le_refl _)
  refine (fspot_big _).mono ?_
  rintro e w1 ⟨b, rfl, hs, hg1⟩
  have HSp := hid hs
  have HB := hid (b0.grow hg1)
  have HG : Hid (Grow w w1) := hid (hg.trans hg1)
  clear b0 hg hs hg1
  generalize h2 : w.heap.size = g2 at HB ⊢
  rw [h2] at HG2
  replace HG2 : Hid (w.heap.size ≤ g2) := hid (Nat.le_of_eq h2)
  clear h2
  go_wp2_with (refine wpList_store_row rfl 51 (.tmp 2) (.tmp 15) rfl g2 #[.bool false, .bool false, .int .u8 0, .int .u8 0, .int .u16 0, .int .u16 0, .int .u32 0, .int .u64 0, .slice none 0 0, .slice none 0 0, .int .i64 0] rfl rfl _ _ HB.out (by kernel_rfl) rfl (by simp [Value.oneCell']) ?_)
  refine parse_ret (by rfl) (by rfl) (HB.out.set _) rfl ?_
  exact parse_no HT.out (HSp.out.err (by decide)) HB.out (fun k h => by simp at h) HG.out HG2.out _
 have hle : l.length ≤ 65536 := by omega
 have HN : Hid (l.length ≤ 65536) := hid hle
 have d : decide ((65536 : Int) < (n : Int)) = false := decide_eq_false (by omega)
 have d' : decide (65536 < n) = false := decide_eq_false (by omega)
 have HHd := hid (fun W (hg : Grow w W) => hGet_any A n c l W (hr.grow hg))
 have HCn := hid (fun W (hg : Grow w W) => flCount_any l A n c W (hr.grow hg))
 have HRd := hid (fun (h : (cntE l).1 = 0) W (hg : Grow w W) => flRead_any l A n c W (hr.grow hg) h hle)
 have HMd := hid (fun (h : (cntE l).1 = 0) (h' : (tabE l).1 = 0) W (hg : Grow w W) B1 d1 B2 d2 hz hy => flModel_any l A n c B1 d1 B2 d2 W (hr.grow hg) h h' hle hz hy)
 have HOf := hid (fun W B1 m1 d1 B2 m2 d2 (h1 : ZR sgK W W.heap.size B1 m1 d1 (mdF l).segs) (h2 : ZR seK W W.heap.size B2 m2 d2 (mdF l).secs) => of_any (mdF l) (mdF_ok l) B1 B2 m1 d1 m2 d2 W h1 h2)
 have HDo := hid hd
 have HRE : Hid (restE l = if (cntE l).1 ≠ 0 then cntE l else if (tabE l).1 ≠ 0 then tabE l else if (mdF l).planC ≠ 0 then ((mdF l).planC, 0) else (0, 0)) := hid rfl
 have HPT : Hid (∀ c p m, restE l = (c, p) → HTold l 0 0 (hdOf l).V → m = (if c = 0 then mdF l else mdN) → PTold l c p m) := hid fun c p m h1 h2 h3 => .inr (.inr ⟨hle, h2, h1, h3⟩)
 obtain ⟨hC, hCe⟩ : ∃ C, (hdOf l).C = C := ⟨_, rfl⟩
 have HHC : Hid (hC = #[.bool (lWide l), .bool (lBig l), .int .u8 ((l.getD 7 0).toNat : Int), .int .u8 ((l.getD 8 0).toNat : Int), .int .u16 ((hdOf l).ty : Int), .int .u16 ((hdOf l).ma : Int), .int .u64 ((hdOf l).en : Int), .int .u64 ((hdOf l).ph : Int), .int .u64 ((hdOf l).sh : Int), .int .u32 ((hdOf l).fl : Int), .int .u16 ((hdOf l).pn : Int), .int .u16 ((hdOf l).sn : Int), .int .u16 ((hdOf l).st : Int)]) := hid hCe.symm
 have HVe : Hid ((hdOf l).V = .agg hC) := hid (by rw [← hCe]; rfl)
 rw [HVe.out] at HCn HRd HMd
 clear hCe hd hr hbig hle hn
 obtain ⟨wide, big, hO, hA, ty, ma, en, ph, sh, fl, pn, sn, st, hCx⟩ : ∃ (wide big : Bool) (hO hA ty ma en ph sh fl pn sn st : Nat), hC = #[.bool wide, .bool big, .int .u8 (hO : Int), .int .u8 (hA : Int), .int .u16 (ty : Int), .int .u16 (ma : Int), .int .u64 (en : Int), .int .u64 (ph : Int), .int .u64 (sh : Int), .int .u32 (fl : Int), .int .u16 (pn : Int), .int .u16 (sn : Int), .int .u16 (st : Int)] := ⟨_, _, _, _, _, _, _, _, _, _, _, _, _, HHC.out⟩
 clear HHC
 subst hCx
 unfold CntR at HCn
 unfold TabsR TabC at HRd
 unfold MdlR at HMd
 unfold OfR PlanR at HOf
 unfold HGot at HHd
 go_enter Tryz.func11, Tryz.ntmps11
 go_wp2_with fail
 generalize hW : World.alloc _ _ = W0
 obtain ⟨b0, hg⟩ := blk1 hW
 clear hW d d'
 have HB := hid b0
 have HG := hid hg
 clear b0 hg
 obtain ⟨g2, hg2⟩ : ∃ g, g = w.heap.size := ⟨_, rfl⟩
 have HG2 : Hid (w.heap.size ≤ g2) := hid (Nat.le_of_eq hg2.symm)
 rw [← hg2] at HB ⊢
 clear hg2
 refine (HHd.out _ HG.out).mono ?_
 rintro e w1 ⟨hc, hp, v, err, rfl, ht, he, hg⟩
 have HTo := hid ht
 have HEr := hid he
 have HB1 := hid (HB.out.grow hg)
 have HG1 : Hid (Grow w w1) := hid (HG.out.trans hg)
 clear ht he hg HB HG HHd
 by_cases h0 : hc ≠ 0
 ·have hv := HTo.out.not h0
  rw [hv] at HTo ⊢
  have HT : Hid (PTold l hc hp mdN) := hid (.inr (.inl ⟨HN.out, h0, HTo.out, rfl⟩))
  obtain ⟨b, rfl⟩ : ∃ b, err = .iface 126 (.pointer (some ⟨b, 0, none⟩)) := by
   rcases HEr.out with ⟨a, _⟩ | ⟨_, b, e, _⟩
   ·exact absurd a h0
   ·exact ⟨b, e⟩
  have hal := Grow.of_alloc w1 (.cells hd0.C 110)
  have HBa := hid (HB1.out.grow hal)
  have HGa : Hid (Grow w (w1.alloc (.cells hd0.C 110))) := hid (HG1.out.trans hal)
  have HEa := hid (HEr.out.grow hal)
  clear h0 hv hal
  unfold Hd.V Hd.C hd0
  unfold Hd.C hd0 at HBa HGa HEa
  go_wp2_with (refine wpList_store_row rfl 51 (.tmp 2) (.tmp 24) rfl g2 #[.bool false, .bool false, .int .u8 0, .int .u8 0, .int .u16 0, .int .u16 0, .int .u32 0, .int .u64 0, .slice none 0 0, .slice none 0 0, .int .i64 0] rfl rfl _ _ HBa.out (by kernel_rfl) rfl (by simp [Value.oneCell']) ?_)
  refine parse_ret (by rfl) (by rfl) (HBa.out.set _) rfl ?_
  exact parse_no HT.out HEa.out HBa.out (fun k h => by simp at h) HGa.out HG2.out _
 have h0' : hc = 0 := by omega
 obtain ⟨hp0, hv⟩ := HTo.out.zero h0'
 have HT0 : Hid (HTold l 0 0 (hdOf l).V) := hid (by have := HTo.out; rw [h0', hp0, hv] at this; exact this)
 obtain rfl : err = .nilIface := by
  rcases HEr.out with ⟨_, _, e⟩ | ⟨a, _⟩
  ·exact e
  ·omega
 rw [hv, HVe.out]
 clear h0 h0' hp0 hv HTo HEr
 have hal := Grow.of_alloc w1 (.cells #[.bool wide, .bool big, .int .u8 (hO : Int), .int .u8 (hA : Int), .int .u16 (ty : Int), .int .u16 (ma : Int), .int .u64 (en : Int), .int .u64 (ph : Int), .int .u64 (sh : Int), .int .u32 (fl : Int), .int .u16 (pn : Int), .int .u16 (sn : Int), .int .u16 (st : Int)] 110)
 have HH := hid (Blk.new w1 110 #[.bool wide, .bool big, .int .u8 (hO : Int), .int .u8 (hA : Int), .int .u16 (ty : Int), .int .u16 (ma : Int), .int .u64 (en : Int), .int .u64 (ph : Int), .int .u64 (sh : Int), .int .u32 (fl : Int), .int .u16 (pn : Int), .int .u16 (sn : Int), .int .u16 (st : Int)])
 have HBa := hid (HB1.out.grow hal)
 have HGa : Hid (Grow w (w1.alloc (.cells #[.bool wide, .bool big, .int .u8 (hO : Int), .int .u8 (hA : Int), .int .u16 (ty : Int), .int .u16 (ma : Int), .int .u64 (en : Int), .int .u64 (ph : Int), .int .u64 (sh : Int), .int .u32 (fl : Int), .int .u16 (pn : Int), .int .u16 (sn : Int), .int .u16 (st : Int)] 110))) := hid (HG1.out.trans hal)
 clear hal HB1 HG1
 go_wp2_with fail
 generalize w1.alloc _ = w2 at HH HBa HGa ⊢
 generalize w1.heap.size = g4 at HH ⊢
 refine (HCn.out _ HGa.out).mono ?_
 rintro e w3 ⟨v, x, y, z, rfl, he, hx, hg⟩
 have HEr := hid he
 have HX := hid hx
 have HH3 := hid (HH.out.grow hg)
 have HB3 := hid (HBa.out.grow hg)
 have HG3 : Hid (Grow w w3) := hid (HGa.out.trans hg)
 clear he hx hg HH HBa HGa HCn
 by_cases h1 : (cntE l).1 ≠ 0
 ·obtain ⟨b, rfl⟩ : ∃ b, v = .iface 126 (.pointer (some ⟨b, 0, none⟩)) := by
   rcases HEr.out with ⟨a, _⟩ | ⟨_, b, e, _⟩
   ·exact absurd a h1
   ·exact ⟨b, e⟩
  have HT : Hid (PTold l (cntE l).1 (cntE l).2 mdN) := hid (HPT.out _ _ _ (by rw [HRE.out, if_pos h1]) HT0.out (by rw [if_neg h1]))
  have hal := Grow.of_alloc w3 (.cells #[.int .u64 (x : Int), .int .u64 (y : Int), .int .u64 (z : Int)] 114)
  have HBa := hid (HB3.out.grow hal)
  have HGa : Hid (Grow w (w3.alloc (.cells #[.int .u64 (x : Int), .int .u64 (y : Int), .int .u64 (z : Int)] 114))) := hid (HG3.out.trans hal)
  have HEa := hid (HEr.out.grow hal)
  clear h1 hal
  go_wp2_with (refine wpList_store_row rfl 51 (.tmp 2) (.tmp 34) rfl g2 #[.bool false, .bool false, .int .u8 0, .int .u8 0, .int .u16 0, .int .u16 0, .int .u32 0, .int .u64 0, .slice none 0 0, .slice none 0 0, .int .i64 0] rfl rfl _ _ HBa.out (by kernel_rfl) rfl (by simp [Value.oneCell']) ?_)
  refine parse_ret (by rfl) (by rfl) (HBa.out.set _) rfl ?_
  exact parse_no HT.out HEa.out HBa.out (fun k h => by simp at h) HGa.out HG2.out _
 have h1' : (cntE l).1 = 0 := by omega
 obtain ⟨rfl, rfl, rfl⟩ := HX.out h1'
 have HC0 := hid h1'
 obtain rfl : v = .nilIface := by
  rcases HEr.out with ⟨_, _, e⟩ | ⟨a, _⟩
  ·exact e
  ·omega
 clear h1 h1' HX HEr
 have hal := Grow.of_alloc w3 (.cells #[.int .u64 (nP l : Int), .int .u64 (nS l : Int), .int .u64 (nI l : Int)] 114)
 have HH4 := hid (HH3.out.grow hal)
 have HB4 := hid (HB3.out.grow hal)
 have HG4 : Hid (Grow w (w3.alloc (.cells #[.int .u64 (nP l : Int), .int .u64 (nS l : Int), .int .u64 (nI l : Int)] 114))) := hid (HG3.out.trans hal)
 clear hal HH3 HB3 HG3
 obtain ⟨v0, v1, v2, v3, v4, v5, v6, v7, v8, v9, v10, v11, v12⟩ := HH4.out.c13
 go_wp2_with fail
 clear v0 v1 v2 v3 v4 v5 v6 v7 v8 v9 v10 v11 v12
 generalize w3.alloc _ = w4 at HH4 HB4 HG4 ⊢
 refine (HRd.out HC0.out _ HG4.out).mono ?_
 rintro e w5 ⟨v, a, b, cc, dd, rfl, he, hx, hx0, hg⟩
 have HEr := hid he
 have HX := hid hx
 have HX0 := hid hx0
 have HH5 := hid (HH4.out.grow hg)
 have HB5 := hid (HB4.out.grow hg)
 have HG5 : Hid (Grow w w5) := hid (HG4.out.trans hg)
 clear he hx hx0 hg HH4 HB4 HG4 HRd
 by_cases h1 : (tabE l).1 ≠ 0
 ·obtain ⟨b, rfl⟩ : ∃ b, v = .iface 126 (.pointer (some ⟨b, 0, none⟩)) := by
   rcases HEr.out with ⟨a, _⟩ | ⟨_, b, e, _⟩
   ·exact absurd a h1
   ·exact ⟨b, e⟩
  obtain ⟨rfl, rfl, rfl, rfl⟩ := HX0.out h1
  have HT : Hid (PTold l (tabE l).1 (tabE l).2 mdN) := hid (HPT.out _ _ _ (by rw [HRE.out, if_neg (by rw [HC0.out]; simp), if_pos h1]) HT0.out (by rw [if_neg h1]))
  have hal := Grow.of_alloc w5 (.cells #[.slice none 0 0, .slice none 0 0, .slice none 0 0, .int .u64 0] 120)
  have HBa := hid (HB5.out.grow hal)
  have HGa : Hid (Grow w (w5.alloc (.cells #[.slice none 0 0, .slice none 0 0, .slice none 0 0, .int .u64 0] 120))) := hid (HG5.out.trans hal)
  have HEa := hid (HEr.out.grow hal)
  clear h1 hal HX HX0
  go_wp2_with (refine wpList_store_row rfl 51 (.tmp 2) (.tmp 45) rfl g2 #[.bool false, .bool false, .int .u8 0, .int .u8 0, .int .u16 0, .int .u16 0, .int .u32 0, .int .u64 0, .slice none 0 0, .slice none 0 0, .int .i64 0] rfl rfl _ _ HBa.out (by kernel_rfl) rfl (by simp [Value.oneCell']) ?_)
  refine parse_ret (by rfl) (by rfl) (HBa.out.set _) rfl ?_
  exact parse_no HT.out HEa.out HBa.out (fun k h => by simp at h) HGa.out HG2.out _
 have h1' : (tabE l).1 = 0 := by omega
 obtain ⟨B1, d1, B2, d2, hcs, hz, hy⟩ := HX.out h1'
 obtain ⟨rfl, rfl, rfl, rfl⟩ : a = .slice A n c ∧ b = .slice B1 (nP l) d1 ∧ cc = .slice B2 (nS l - 1) d2 ∧ dd = .int .u64 (nI l : Nat) := by
  simpa using hcs
 have HTb := hid h1'
 obtain rfl : v = .nilIface := by
  rcases HEr.out with ⟨_, _, e⟩ | ⟨a, _⟩
  ·exact e
  ·omega
 have hal := Grow.of_alloc w5 (.cells #[.slice A n c, .slice B1 (nP l) d1, .slice B2 (nS l - 1) d2, .int .u64 (nI l : Int)] 120)
 have HZ := hid (hz.grow hal)
 have HY := hid (hy.grow hal)
 have HH6 := hid (HH5.out.grow hal)
 have HB6 := hid (HB5.out.grow hal)
 have HG6 : Hid (Grow w (w5.alloc (.cells #[.slice A n c, .slice B1 (nP l) d1, .slice B2 (nS l - 1) d2, .int .u64 (nI l : Int)] 120))) := hid (HG5.out.trans hal)
 clear h1 h1' hcs hz hy hal HX HX0 HEr HH5 HB5 HG5
 obtain ⟨v0, v1, v2, v3, v4, v5, v6, v7, v8, v9, v10, v11, v12⟩ := HH6.out.c13
 go_wp2_with fail
 clear v0 v1 v2 v3 v4 v5 v6 v7 v8 v9 v10 v11 v12
 generalize w5.alloc _ = w6 at HZ HY HH6 HB6 HG6 ⊢
 refine (HMd.out HC0.out HTb.out _ HG6.out _ _ _ _ HZ.out HY.out).mono ?_
 rintro e w7 ⟨M1, k1, e1, M2, k2, e2, rfl, hs1, hs2, hg⟩
 have HB7 := hid (HB6.out.grow hg)
 have HG7 : Hid (Grow w w7) := hid (HG6.out.trans hg)
 have HR1 := hid hs1
 have HR2 := hid hs2
 have HG6s : Hid (g2 < w6.heap.size) := hid HB6.out.lt
 clear hs1 hs2 hg HB6 HG6 HH6 HZ HY HMd
 have HOf7 := hid (fun W (hg : Grow w7 W) => HOf.out W M1 k1 e1 M2 k2 e2 (HR1.out.keep hg).zr (HR2.out.keep hg).zr)
 have HCm : Hid (mdC (mdF l) (.slice M1 k1 e1) (.slice M2 k2 e2) = mdC (mdF l) (.slice M1 k1 e1) (.slice M2 k2 e2)) := hid rfl
 have HYes : Hid (∀ W, (mdF l).planC = 0 → ZR sgK W W.heap.size M1 k1 e1 (mdF l).segs → ZR seK W W.heap.size M2 k2 e2 (mdF l).secs → Grow w W → ParseR l w (.returned (.tuple #[.agg (mdC (mdF l) (.slice M1 k1 e1) (.slice M2 k2 e2)), .nilIface])) W) := hid fun W h0 h1 h2 hg =>
  ⟨0, 0, mdF l, .nilIface, M1, k1, e1, M2, k2, e2, rfl, HPT.out 0 0 _ (by rw [HRE.out, if_neg (by rw [HC0.out]; simp), if_neg (by rw [HTb.out]; simp), if_neg (by rw [h0]; simp)]) HT0.out (by rw [if_pos rfl]), .inl ⟨rfl, rfl, rfl⟩, h1, h2, hg⟩
 have HNo : Hid ((mdF l).planC ≠ 0 → PTold l (mdF l).planC 0 mdN) := hid fun h0 => HPT.out _ _ _ (by rw [HRE.out, if_neg (by rw [HC0.out]; simp), if_neg (by rw [HTb.out]; simp), if_pos h0]) HT0.out (by rw [if_neg h0])
 clear HOf HCm HPT HRE HT0 HC0 HTb HVe HN
 unfold mdC at HOf7 HYes ⊢
 generalize (mdF l).planC = C at HOf7 HYes HNo ⊢
 generalize (mdF l).planD = D at HOf7
 generalize (mdF l).segs = Ls at HR1 HYes
 generalize (mdF l).secs = Le at HR2 HYes
 generalize (mdF l).wide = mw at HOf7 HYes ⊢
 generalize (mdF l).big = mb at HOf7 HYes ⊢
 generalize (mdF l).osabi = mo at HOf7 HYes ⊢
 generalize (mdF l).abi = mab at HOf7 HYes ⊢
 generalize (mdF l).typ = mt at HOf7 HYes ⊢
 generalize (mdF l).mach = mm at HOf7 HYes ⊢
 generalize (mdF l).flags = mf at HOf7 HYes ⊢
 generalize (mdF l).entry = me at HOf7 HYes ⊢
 generalize (mdF l).str = ms at HOf7 HYes ⊢
 have hal := Grow.of_alloc w7 (.cells #[.bool mw, .bool mb, .int .u8 (mo : Int), .int .u8 (mab : Int), .int .u16 (mt : Int), .int .u16 (mm : Int), .int .u32 (mf : Int), .int .u64 (me : Int), .slice M1 k1 e1, .slice M2 k2 e2, .int .i64 ms] 51)
 have HM8 := hid (Blk.new w7 51 #[.bool mw, .bool mb, .int .u8 (mo : Int), .int .u8 (mab : Int), .int .u16 (mt : Int), .int .u16 (mm : Int), .int .u32 (mf : Int), .int .u64 (me : Int), .slice M1 k1 e1, .slice M2 k2 e2, .int .i64 ms])
 have HB8 := hid (HB7.out.grow hal)
 have HG8 : Hid (Grow w (w7.alloc (.cells #[.bool mw, .bool mb, .int .u8 (mo : Int), .int .u8 (mab : Int), .int .u16 (mt : Int), .int .u16 (mm : Int), .int .u32 (mf : Int), .int .u64 (me : Int), .slice M1 k1 e1, .slice M2 k2 e2, .int .i64 ms] 51))) := hid (HG7.out.trans hal)
 have HO8 := hid (HOf7.out _ hal)
 have HR18 := hid (HR1.out.keep hal)
 have HR28 := hid (HR2.out.keep hal)
 clear hal HB7 HG7 HOf7 HR1 HR2
 go_wp2_with fail
 generalize w7.alloc _ = w8 at HM8 HB8 HG8 HO8 HR18 HR28 ⊢
 generalize w7.heap.size = g8 at HM8 ⊢
 refine HO8.out.mono ?_
 rintro e w9 ⟨cs, rfl, ⟨Q1, q1, f1, Q2, q2, f2, rfl, -, -⟩, hg⟩
 have HM9 := hid (HM8.out.grow hg)
 have HB9 := hid (HB8.out.grow hg)
 have HG9 : Hid (Grow w w9) := hid (HG8.out.trans hg)
 have HR19 := hid (HR18.out.keep hg)
 have HR29 := hid (HR28.out.keep hg)
 clear hg HM8 HB8 HG8 HO8 HR18 HR28
 generalize D.ph = Dp
 generalize D.sh = Ds
 generalize D.sz = Dz
 have hal := Grow.of_alloc w9 (.cells #[.int .u64 (Dp : Int), .int .u64 (Ds : Int), .int .u64 (Dz : Int), .slice Q1 q1 f1, .slice Q2 q2 f2] 104)
 have HMa := hid (HM9.out.grow hal)
 have HBa := hid (HB9.out.grow hal)
 have HGa : Hid (Grow w (w9.alloc (.cells #[.int .u64 (Dp : Int), .int .u64 (Ds : Int), .int .u64 (Dz : Int), .slice Q1 q1 f1, .slice Q2 q2 f2] 104))) := hid (HG9.out.trans hal)
 have HR1a := hid (HR19.out.keep hal)
 have HR2a := hid (HR29.out.keep hal)
 clear hal HM9 HB9 HG9 HR19 HR29
 by_cases h1 : C = 0
 ·rw [h1, eC_zero]
  have HY2 := hid (fun W => HYes.out W h1)
  clear h1 HNo HYes
  obtain ⟨v0, v1, v2, v3, v4, v5, v6, v7, v8, v9, v10⟩ := HMa.out.c11
  go_wp2_with (refine wpList_store_row rfl 51 (.tmp 2) (.tmp 63) rfl g2 #[.bool mw, .bool mb, .int .u8 (mo : Int), .int .u8 (mab : Int), .int .u16 (mt : Int), .int .u16 (mm : Int), .int .u32 (mf : Int), .int .u64 (me : Int), .slice M1 k1 e1, .slice M2 k2 e2, .int .i64 ms] rfl rfl _ _ HBa.out (by kernel_rfl) rfl (by simp [Value.oneCell']) ?_)
  refine parse_ret (by rfl) (by rfl) (HBa.out.set _) rfl ?_
  refine HY2.out _ ?_ ?_ (HGa.out.set HG2.out _)
  ·exact (HR1a.out.set HG6s.out _).zr
  ·exact (HR2a.out.set HG6s.out _).zr
 ·rw [eC_some h1]
  have HT := hid (HNo.out h1)
  have HCp : Hid (0 < C) := hid (by omega)
  clear h1 HNo HYes HR1a HR2a HMa
  have hal := Grow.of_alloc (w9.alloc (.cells #[.int .u64 (Dp : Int), .int .u64 (Ds : Int), .int .u64 (Dz : Int), .slice Q1 q1 f1, .slice Q2 q2 f2] 104)) (.cells #[.int .i64 0] 86)
  have HCb := hid (Blk.new (w9.alloc (.cells #[.int .u64 (Dp : Int), .int .u64 (Ds : Int), .int .u64 (Dz : Int), .slice Q1 q1 f1, .slice Q2 q2 f2] 104)) 86 #[.int .i64 0])
  have HBb := hid (HBa.out.grow hal)
  have HGb := hid (HGa.out.trans hal)
  have HNe : Hid (g2 ≠ (w9.alloc (.cells #[.int .u64 (Dp : Int), .int .u64 (Ds : Int), .int .u64 (Dz : Int), .slice Q1 q1 f1, .slice Q2 q2 f2] 104)).heap.size) := hid (by have := HBa.out.lt; omega)
  have HGx : Hid (w.heap.size ≤ (w9.alloc (.cells #[.int .u64 (Dp : Int), .int .u64 (Ds : Int), .int .u64 (Dz : Int), .slice Q1 q1 f1, .slice Q2 q2 f2] 104)).heap.size) := hid HGa.out.size
  rw [show (w9.alloc (.cells #[.int .u64 (Dp : Int), .int .u64 (Ds : Int), .int .u64 (Dz : Int), .slice Q1 q1 f1, .slice Q2 q2 f2] 104)).heap.size = w9.heap.size + 1 by simp] at HCb HNe HGx
  clear hal HBa HGa
  go_wp2_with fail
  generalize World.alloc (w9.alloc _) _ = wa at HCb HBb HGb ⊢
  generalize w9.heap.size + 1 = gc at HCb HNe HGx ⊢
  refine (as_hit (C : Int) gc wa (HDo.out.grow HGb.out) (HCb.out.at 0) (HCb.out.soft 0)).mono ?_
  rintro e wb ⟨rfl, W, hgW, rfl⟩
  have e9 := setCell_eq_setRow W gc 0 _ 86 (0, 0) (.int .i64 (C : Int)) (HCb.out.grow hgW)
  rw [e9]
  have HCc := hid ((HCb.out.grow hgW).set (#[.int .i64 (C : Int)]))
  have HBc := hid ((HBb.out.grow hgW).other HNe.out (#[.int .i64 (C : Int)]))
  have HGc : Hid (Grow w (W.setRow gc #[.int .i64 (C : Int)])) := hid ((HGb.out.trans hgW).set HGx.out _)
  clear e9 hgW HCb HBb HGb
  have c0 : (W.setRow gc #[.int .i64 (C : Int)]).cell? ⟨gc, 0, none⟩ = some (.int .i64 (C : Int)) := HCc.out.at 0
  go_wp2_with fail
  refine (fspot_0 C _).mono ?_
  rintro e wd ⟨b, rfl, hs, hg⟩
  have HSp := hid hs
  have HBd := hid (HBc.out.grow hg)
  have HGd : Hid (Grow w wd) := hid (HGc.out.trans hg)
  clear hs hg c0 HCc HBc HGc
  go_wp2_with (refine wpList_store_row rfl 51 (.tmp 2) (.tmp 60) rfl g2 #[.bool false, .bool false, .int .u8 0, .int .u8 0, .int .u16 0, .int .u16 0, .int .u32 0, .int .u64 0, .slice none 0 0, .slice none 0 0, .int .i64 0] rfl rfl _ _ HBd.out (by kernel_rfl) rfl (by simp [Value.oneCell']) ?_)
  refine parse_ret (by rfl) (by rfl) (HBd.out.set _) rfl ?_
  exact parse_no HT.out (HSp.out.err HCp.out) HBd.out (fun k h => by simp at h) HGd.out HG2.out _
set_option maxRecDepth 100000
def BackR (m : Md) (w : World) (e : Ending) (w' : World) : Prop :=
 ∃ A1 n1 c1 A2 n2 c2, e = .returned (.tuple #[.agg (mdC m (.slice A1 n1 c1) (.slice A2 n2 c2)), .nilIface]) ∧ ZR sgK w' w'.heap.size A1 n1 c1 m.segs ∧ ZR seK w' w'.heap.size A2 n2 c2 m.secs ∧ Grow w w'
theorem parse_back (m : Md) (h : Good m) (L r : List UInt8) (hf : FileIs m L) (hl : (L ++ r).length ≤ 65536) (A : Option Addr) (n c : Nat) (w : World) (hr : RB w w.heap.size A n c (L ++ r)) (hd : Door w) :
  Calls Tryz.prog 11 #[.slice A n c] w (BackR m w) := by
 refine Calls.mono (parse_any _ A n c w hr hd) ?_
 rintro e w' ⟨c, p, m', v, A1, n1, c1, A2, n2, c2, rfl, ht, he, z1, z2, hg⟩
 obtain ⟨rfl, rfl, rfl⟩ := ht.one ((wrote_of h hf hl).back (fun i hi => h.pgFits hi) (fun i hi => h.scFits hi))
 rcases he with ⟨_, _, rfl⟩ | ⟨h0, _⟩
 ·exact ⟨A1, n1, c1, A2, n2, c2, rfl, z1, z2, hg⟩
 ·omega
end Go.Proofs.YtfbimboemahhhaaGreatDoor
