/-
  Several texts in one: The contract of file; What was written is read by Parse; and the document's example (up); The contract of the statements' Few.
-/
import Derived.Test.YtlccbekalccahaaGreatDoorFeH35
import Derived.Test.YtlccbekalccahaaGreatDoorFeH1
import Derived.Test.YtlccbekalccahaaGreatDoorFeH29
import Derived.Test.YtlccbekalccahaaGreatDoorFeH30
import Derived.Test.YtlccbekalccahaaGreatDoorFeH8

namespace Go.Proofs.YtlccbekalccahaaGreatDoor
open Go.RowKit
set_option maxRecDepth 100000
set_option linter.unusedVariables false

/-- What Parse answers. -/
def ParseR (l : List UInt8) (w : World) (e : Ending) (w' : World) : Prop :=
  ∃ c p m v A1 n1 c1 A2 n2 c2, e = .returned (.tuple #[.agg (mdC m (.slice A1 n1 c1) (.slice A2 n2 c2)), v]) ∧ PTold l c p m ∧ Err w' v c p ∧ ZR sgK w' w'.heap.size A1 n1 c1 m.segs ∧ ZR seK w' w'.heap.size A2 n2 c2 m.secs ∧ Grow w w'
theorem parse_ret {K : Ending → World → Prop} {W : World} {tmps : Array Value} {g : Nat} {ev : Value} {cs : Array Value} (ht : tmps.getD 2 undef = .pointer (some ⟨g, 0, none⟩)) (he : tmps.getD 3 undef = ev)
    (hx : Blk W g 32 cs) (hn : cs.size = 11) (hk : K (.returned (.tuple #[.agg cs, ev])) W) : bodyPost Tryz.prog Tryz.f11 K .ret ⟨tmps, []⟩ W := by
  refine bodyPost_ret (v := .tuple #[.agg cs, ev]) ?_ rfl hk
  rw [results_cell_tmp rfl, ht, he]
  simp [asAddr, Result.andThen, hx.var _ _ Tryz.underlying32 rfl (by rw [hn]; kernel_rfl)]
/-- No model, an error. -/
theorem parse_no {l : List UInt8} {w W : World} {c p g : Nat} {v : Value} {t : TypeId} {cs : Array Value} (ht : PTold l c p mdN) (he : Err W v c p) (hb : Blk W g t cs) (hne : ∀ k : Int, cs[0]? ≠ some (.int .i64 k)) (hg : Grow w W) (hge : w.heap.size ≤ g) (cs' : Array Value) :
    ParseR l w (.returned (.tuple #[.agg #[.bool false, .bool false, .int .u8 0, .int .u8 0, .int .u16 0, .int .u16 0, .int .u32 0, .int .u64 0, .slice none 0 0, .slice none 0 0, .int .i64 0], v])) (W.setRow g cs') :=
  ⟨c, p, mdN, v, none, 0, 0, none, 0, 0, rfl, ht, he.past hb hne cs', ZR.nil, ZR.nil, hg.set hge cs'⟩
theorem fspot_big (w : World) : Calls Tryz.prog 24 #[.int .i64 65536, .int .i64 8] w fun e w' => ∃ b, e = .returned (.iface 107 (.pointer (some ⟨b, 0, none⟩))) ∧ Spt w' (.iface 107 (.pointer (some ⟨b, 0, none⟩))) 8 65536 ∧ Grow w w' := fspot_any 65536 8 w
theorem fspot_0 (c : Nat) (w : World) : Calls Tryz.prog 24 #[.int .i64 0, .int .i64 (c : Int)] w fun e w' => ∃ b, e = .returned (.iface 107 (.pointer (some ⟨b, 0, none⟩))) ∧ Spt w' (.iface 107 (.pointer (some ⟨b, 0, none⟩))) c 0 ∧ Grow w w' := fspot_any 0 c w
theorem u8_lt (b : UInt8) : b.toNat < 256 := b.toNat_lt
/-- The numbers of a file's model are in range. -/
theorem ownPl_ok (l : List UInt8) (off n : Nat) (hn : n < 18446744073709551616) : (ownPl l off n).Ok := by
  unfold ownPl
  split
  · exact ⟨by unfold I64; decide, by decide, by decide⟩
  · exact ⟨by unfold I64; show -9223372036854775808 ≤ (-1 : Int) ∧ (-1 : Int) ≤ 9223372036854775807; decide, by show 0 < _; decide, hn⟩
theorem fstP_lt {l : List UInt8} {off n : Nat} : ∀ {i k j : Nat}, fstP l off n i k = some j → j < i + k
  | i, 0, j, h => by simp [fstP] at h
  | i, k + 1, j, h => by
    rw [fstP] at h
    split at h
    · have : i = j := by simpa using h
      omega
    · have := fstP_lt h
      omega
theorem findPl_ok (l : List UInt8) (off n : Nat) (ho : off < 18446744073709551616) (hn : n < 18446744073709551616) (hp : nP l < 4294967296) : (findPl l off n).Ok := by
  unfold findPl
  split
  · exact ownPl_ok l off n hn
  · split
    · rename_i i h
      have := fstP_lt h
      exact ⟨by unfold I64; show -9223372036854775808 ≤ (i : Int) ∧ (i : Int) ≤ 9223372036854775807; omega, by show off - _ < _; omega, hn⟩
    · exact ownPl_ok l off n hn
theorem fst_ok (l : List UInt8) : (fst_ l).Ok := by
  unfold fst_
  split
  · exact ⟨by decide, by decide, by decide, by decide, by decide, by decide, by decide, by decide, by decide, by decide⟩
  · exact scOf_ok _ _ _ _
theorem nP_lt (l : List UInt8) : nP l < 4294967296 := by
  have h := hdOf_ok l
  have f := fst_ok l
  unfold nP
  split
  · exact f.inf
  · have := h.pn; omega
theorem nI_lt (l : List UInt8) : nI l < 4294967296 := by
  have h := hdOf_ok l
  have f := fst_ok l
  unfold nI
  split
  · exact f.li
  · have := h.st; omega
theorem mdF_ok (l : List UInt8) : (mdF l).Ok := by
  have h := hdOf_ok l
  have hp := nP_lt l
  refine ⟨u8_lt _, u8_lt _, h.ty, h.ma, h.fl, h.en, fun s hs => ?_, fun s hs => ?_, ?_⟩
  · obtain ⟨i, _, rfl⟩ := List.mem_map.1 hs
    have p : (pgs l i).Ok := pgOf_ok _ _ _ _
    refine ⟨p.ty, p.fl, p.va, p.pa, p.ms, p.al, ?_⟩
    show (if (pgs l i).ty = 1 then _ else _ : Pl).Ok
    split
    · exact ownPl_ok _ _ _ p.fs
    · exact findPl_ok _ _ _ p.off p.fs hp
  · obtain ⟨i, _, rfl⟩ := List.mem_map.1 hs
    have p : (scs l (i + 1)).Ok := scOf_ok _ _ _ _
    refine ⟨p.na, p.ty, p.fl, p.ad, p.sz, p.li, p.inf, p.al, p.en, ?_⟩
    show (if (scs l (i + 1)).ty = 0 ∨ (scs l (i + 1)).ty = 8 then _ else _ : Pl).Ok
    split
    · exact ownPl_ok _ _ _ (by decide)
    split
    · exact ownPl_ok _ _ _ p.sz
    · exact findPl_ok _ _ _ p.off p.sz hp
  · have := nI_lt l
    unfold I64
    show -9223372036854775808 ≤ ((nI l : Nat) : Int) ∧ ((nI l : Nat) : Int) ≤ 9223372036854775807
    omega

set_option maxHeartbeats 20000000 in
theorem parse_any (l : List UInt8) (A : Option Addr) (n c : Nat) (w : World) (hr : RB w w.heap.size A n c l) (hd : Door w) :
    Calls Tryz.prog 11 #[.slice A n c] w (ParseR l w) := by
  have hn := hr.len
  have hcp := hr.cap
  have hmx := hr.max
  unfold maxLen at hmx
  by_cases hbig : 65536 < l.length
  · have HT : Hid (PTold l 8 65536 mdN) := Lib.hid (.inl ⟨hbig, rfl, rfl, rfl⟩)
    have d : decide ((65536 : Int) < (n : Int)) = true := decide_eq_true (by omega)
    have d' : decide (65536 < n) = true := decide_eq_true (by omega)
    clear hbig hn hr
    go_enter Tryz.func11, Tryz.ntmps11
    go_wp2_with fail
    generalize hW : World.alloc _ _ = W0
    obtain ⟨b0, hg⟩ := blk1 hW
    clear hW
    have HG2 : Hid (w.heap.size ≤ w.heap.size) := Lib.hid (Nat.le_refl _)
    refine (fspot_big _).mono ?_
    rintro e w1 ⟨b, rfl, hs, hg1⟩
    have HSp := Lib.hid hs
    have HB := Lib.hid (b0.grow hg1)
    have HG : Hid (Grow w w1) := Lib.hid (hg.trans hg1)
    clear b0 hg hs hg1
    generalize h2 : w.heap.size = g2 at HB ⊢
    rw [h2] at HG2
    replace HG2 : Hid (w.heap.size ≤ g2) := Lib.hid (Nat.le_of_eq h2)
    clear h2
    go_wp2_with (refine wpList_store_row rfl 32 (.tmp 2) (.tmp 15) rfl g2 #[.bool false, .bool false, .int .u8 0, .int .u8 0, .int .u16 0, .int .u16 0, .int .u32 0, .int .u64 0, .slice none 0 0, .slice none 0 0, .int .i64 0] rfl rfl _ _ HB.out (by kernel_rfl) rfl (by simp [Value.oneCell']) ?_)
    refine parse_ret (by rfl) (by rfl) (HB.out.set _) rfl ?_
    exact parse_no HT.out (HSp.out.err (by decide)) HB.out (fun k h => by simp at h) HG.out HG2.out _
  have hle : l.length ≤ 65536 := by omega
  have HN : Hid (l.length ≤ 65536) := Lib.hid hle
  have d : decide ((65536 : Int) < (n : Int)) = false := decide_eq_false (by omega)
  have d' : decide (65536 < n) = false := decide_eq_false (by omega)
  have HHd := Lib.hid (fun W (hg : Grow w W) => hGet_any A n c l W (hr.grow hg))
  have HCn := Lib.hid (fun W (hg : Grow w W) => flCount_any l A n c W (hr.grow hg))
  have HRd := Lib.hid (fun (h : (cntE l).1 = 0) W (hg : Grow w W) => flRead_any l A n c W (hr.grow hg) h hle)
  have HMd := Lib.hid (fun (h : (cntE l).1 = 0) (h' : (tabE l).1 = 0) W (hg : Grow w W) B1 d1 B2 d2 hz hy => flModel_any l A n c B1 d1 B2 d2 W (hr.grow hg) h h' hle hz hy)
  have HOf := Lib.hid (fun W B1 m1 d1 B2 m2 d2 (h1 : ZR sgK W W.heap.size B1 m1 d1 (mdF l).segs) (h2 : ZR seK W W.heap.size B2 m2 d2 (mdF l).secs) => of_any (mdF l) (mdF_ok l) B1 B2 m1 d1 m2 d2 W h1 h2)
  have HDo := Lib.hid hd
  have HRE : Hid (restE l = if (cntE l).1 ≠ 0 then cntE l else if (tabE l).1 ≠ 0 then tabE l else if (mdF l).planC ≠ 0 then ((mdF l).planC, 0) else (0, 0)) := Lib.hid rfl
  have HPT : Hid (∀ c p m, restE l = (c, p) → HTold l 0 0 (hdOf l).V → m = (if c = 0 then mdF l else mdN) → PTold l c p m) := Lib.hid fun c p m h1 h2 h3 => .inr (.inr ⟨hle, h2, h1, h3⟩)
  obtain ⟨hC, hCe⟩ : ∃ C, (hdOf l).C = C := ⟨_, rfl⟩
  have HHC : Hid (hC = #[.bool (lWide l), .bool (lBig l), .int .u8 ((l.getD 7 0).toNat : Int), .int .u8 ((l.getD 8 0).toNat : Int), .int .u16 ((hdOf l).ty : Int), .int .u16 ((hdOf l).ma : Int), .int .u64 ((hdOf l).en : Int), .int .u64 ((hdOf l).ph : Int), .int .u64 ((hdOf l).sh : Int), .int .u32 ((hdOf l).fl : Int), .int .u16 ((hdOf l).pn : Int), .int .u16 ((hdOf l).sn : Int), .int .u16 ((hdOf l).st : Int)]) := Lib.hid hCe.symm
  have HVe : Hid ((hdOf l).V = .agg hC) := Lib.hid (by rw [← hCe]; rfl)
  rw [HVe.out] at HCn HRd HMd
  clear hCe hd hr hbig hle hn
  obtain ⟨wide, big, hO, hA, ty, ma, en, ph, sh, fl, pn, sn, st, hCx⟩ : ∃ (wide big : Bool) (hO hA ty ma en ph sh fl pn sn st : Nat), hC = #[.bool wide, .bool big, .int .u8 (hO : Int), .int .u8 (hA : Int), .int .u16 (ty : Int), .int .u16 (ma : Int), .int .u64 (en : Int), .int .u64 (ph : Int), .int .u64 (sh : Int), .int .u32 (fl : Int), .int .u16 (pn : Int), .int .u16 (sn : Int), .int .u16 (st : Int)] := ⟨_, _, _, _, _, _, _, _, _, _, _, _, _, HHC.out⟩
  clear HHC
  subst hCx
  unfold CntR at HCn
  unfold TabsR TabC at HRd
  unfold MdlR at HMd
  unfold OfR PlanR at HOf
  unfold HGot at HHd
  go_enter Tryz.func11, Tryz.ntmps11
  go_wp2_with fail
  generalize hW : World.alloc _ _ = W0
  obtain ⟨b0, hg⟩ := blk1 hW
  clear hW d d'
  have HB := Lib.hid b0
  have HG := Lib.hid hg
  clear b0 hg
  obtain ⟨g2, hg2⟩ : ∃ g, g = w.heap.size := ⟨_, rfl⟩
  have HG2 : Hid (w.heap.size ≤ g2) := Lib.hid (Nat.le_of_eq hg2.symm)
  rw [← hg2] at HB ⊢
  clear hg2
  refine (HHd.out _ HG.out).mono ?_
  rintro e w1 ⟨hc, hp, v, err, rfl, ht, he, hg⟩
  have HTo := Lib.hid ht
  have HEr := Lib.hid he
  have HB1 := Lib.hid (HB.out.grow hg)
  have HG1 : Hid (Grow w w1) := Lib.hid (HG.out.trans hg)
  clear ht he hg HB HG HHd
  by_cases h0 : hc ≠ 0
  · have hv := HTo.out.not h0
    rw [hv] at HTo ⊢
    have HT : Hid (PTold l hc hp mdN) := Lib.hid (.inr (.inl ⟨HN.out, h0, HTo.out, rfl⟩))
    obtain ⟨b, rfl⟩ : ∃ b, err = .iface 107 (.pointer (some ⟨b, 0, none⟩)) := by
      rcases HEr.out with ⟨a, _⟩ | ⟨_, b, e, _⟩
      · exact absurd a h0
      · exact ⟨b, e⟩
    have hal := Grow.of_alloc w1 (.cells hd0.C 69)
    have HBa := Lib.hid (HB1.out.grow hal)
    have HGa : Hid (Grow w (w1.alloc (.cells hd0.C 69))) := Lib.hid (HG1.out.trans hal)
    have HEa := Lib.hid (HEr.out.grow hal)
    clear h0 hv hal
    unfold Hd.V Hd.C hd0
    unfold Hd.C hd0 at HBa HGa HEa
    go_wp2_with (refine wpList_store_row rfl 32 (.tmp 2) (.tmp 24) rfl g2 #[.bool false, .bool false, .int .u8 0, .int .u8 0, .int .u16 0, .int .u16 0, .int .u32 0, .int .u64 0, .slice none 0 0, .slice none 0 0, .int .i64 0] rfl rfl _ _ HBa.out (by kernel_rfl) rfl (by simp [Value.oneCell']) ?_)
    refine parse_ret (by rfl) (by rfl) (HBa.out.set _) rfl ?_
    exact parse_no HT.out HEa.out HBa.out (fun k h => by simp at h) HGa.out HG2.out _
  have h0' : hc = 0 := by omega
  obtain ⟨hp0, hv⟩ := HTo.out.zero h0'
  have HT0 : Hid (HTold l 0 0 (hdOf l).V) := Lib.hid (by have := HTo.out; rw [h0', hp0, hv] at this; exact this)
  obtain rfl : err = .nilIface := by
    rcases HEr.out with ⟨_, _, e⟩ | ⟨a, _⟩
    · exact e
    · omega
  rw [hv, HVe.out]
  clear h0 h0' hp0 hv HTo HEr
  have hal := Grow.of_alloc w1 (.cells #[.bool wide, .bool big, .int .u8 (hO : Int), .int .u8 (hA : Int), .int .u16 (ty : Int), .int .u16 (ma : Int), .int .u64 (en : Int), .int .u64 (ph : Int), .int .u64 (sh : Int), .int .u32 (fl : Int), .int .u16 (pn : Int), .int .u16 (sn : Int), .int .u16 (st : Int)] 69)
  have HH := Lib.hid (Blk.new w1 69 #[.bool wide, .bool big, .int .u8 (hO : Int), .int .u8 (hA : Int), .int .u16 (ty : Int), .int .u16 (ma : Int), .int .u64 (en : Int), .int .u64 (ph : Int), .int .u64 (sh : Int), .int .u32 (fl : Int), .int .u16 (pn : Int), .int .u16 (sn : Int), .int .u16 (st : Int)])
  have HBa := Lib.hid (HB1.out.grow hal)
  have HGa : Hid (Grow w (w1.alloc (.cells #[.bool wide, .bool big, .int .u8 (hO : Int), .int .u8 (hA : Int), .int .u16 (ty : Int), .int .u16 (ma : Int), .int .u64 (en : Int), .int .u64 (ph : Int), .int .u64 (sh : Int), .int .u32 (fl : Int), .int .u16 (pn : Int), .int .u16 (sn : Int), .int .u16 (st : Int)] 69))) := Lib.hid (HG1.out.trans hal)
  clear hal HB1 HG1
  go_wp2_with fail
  generalize w1.alloc _ = w2 at HH HBa HGa ⊢
  generalize w1.heap.size = g4 at HH ⊢
  refine (HCn.out _ HGa.out).mono ?_
  rintro e w3 ⟨v, x, y, z, rfl, he, hx, hg⟩
  have HEr := Lib.hid he
  have HX := Lib.hid hx
  have HH3 := Lib.hid (HH.out.grow hg)
  have HB3 := Lib.hid (HBa.out.grow hg)
  have HG3 : Hid (Grow w w3) := Lib.hid (HGa.out.trans hg)
  clear he hx hg HH HBa HGa HCn
  by_cases h1 : (cntE l).1 ≠ 0
  · obtain ⟨b, rfl⟩ : ∃ b, v = .iface 107 (.pointer (some ⟨b, 0, none⟩)) := by
      rcases HEr.out with ⟨a, _⟩ | ⟨_, b, e, _⟩
      · exact absurd a h1
      · exact ⟨b, e⟩
    have HT : Hid (PTold l (cntE l).1 (cntE l).2 mdN) := Lib.hid (HPT.out _ _ _ (by rw [HRE.out, if_pos h1]) HT0.out (by rw [if_neg h1]))
    have hal := Grow.of_alloc w3 (.cells #[.int .u64 (x : Int), .int .u64 (y : Int), .int .u64 (z : Int)] 86)
    have HBa := Lib.hid (HB3.out.grow hal)
    have HGa : Hid (Grow w (w3.alloc (.cells #[.int .u64 (x : Int), .int .u64 (y : Int), .int .u64 (z : Int)] 86))) := Lib.hid (HG3.out.trans hal)
    have HEa := Lib.hid (HEr.out.grow hal)
    clear h1 hal
    go_wp2_with (refine wpList_store_row rfl 32 (.tmp 2) (.tmp 34) rfl g2 #[.bool false, .bool false, .int .u8 0, .int .u8 0, .int .u16 0, .int .u16 0, .int .u32 0, .int .u64 0, .slice none 0 0, .slice none 0 0, .int .i64 0] rfl rfl _ _ HBa.out (by kernel_rfl) rfl (by simp [Value.oneCell']) ?_)
    refine parse_ret (by rfl) (by rfl) (HBa.out.set _) rfl ?_
    exact parse_no HT.out HEa.out HBa.out (fun k h => by simp at h) HGa.out HG2.out _
  have h1' : (cntE l).1 = 0 := by omega
  obtain ⟨rfl, rfl, rfl⟩ := HX.out h1'
  have HC0 := Lib.hid h1'
  obtain rfl : v = .nilIface := by
    rcases HEr.out with ⟨_, _, e⟩ | ⟨a, _⟩
    · exact e
    · omega
  clear h1 h1' HX HEr
  have hal := Grow.of_alloc w3 (.cells #[.int .u64 (nP l : Int), .int .u64 (nS l : Int), .int .u64 (nI l : Int)] 86)
  have HH4 := Lib.hid (HH3.out.grow hal)
  have HB4 := Lib.hid (HB3.out.grow hal)
  have HG4 : Hid (Grow w (w3.alloc (.cells #[.int .u64 (nP l : Int), .int .u64 (nS l : Int), .int .u64 (nI l : Int)] 86))) := Lib.hid (HG3.out.trans hal)
  clear hal HH3 HB3 HG3
  obtain ⟨v0, v1, v2, v3, v4, v5, v6, v7, v8, v9, v10, v11, v12⟩ := HH4.out.c13
  go_wp2_with fail
  clear v0 v1 v2 v3 v4 v5 v6 v7 v8 v9 v10 v11 v12
  generalize w3.alloc _ = w4 at HH4 HB4 HG4 ⊢
  refine (HRd.out HC0.out _ HG4.out).mono ?_
  rintro e w5 ⟨v, a, b, cc, dd, rfl, he, hx, hx0, hg⟩
  have HEr := Lib.hid he
  have HX := Lib.hid hx
  have HX0 := Lib.hid hx0
  have HH5 := Lib.hid (HH4.out.grow hg)
  have HB5 := Lib.hid (HB4.out.grow hg)
  have HG5 : Hid (Grow w w5) := Lib.hid (HG4.out.trans hg)
  clear he hx hx0 hg HH4 HB4 HG4 HRd
  by_cases h1 : (tabE l).1 ≠ 0
  · obtain ⟨b, rfl⟩ : ∃ b, v = .iface 107 (.pointer (some ⟨b, 0, none⟩)) := by
      rcases HEr.out with ⟨a, _⟩ | ⟨_, b, e, _⟩
      · exact absurd a h1
      · exact ⟨b, e⟩
    obtain ⟨rfl, rfl, rfl, rfl⟩ := HX0.out h1
    have HT : Hid (PTold l (tabE l).1 (tabE l).2 mdN) := Lib.hid (HPT.out _ _ _ (by rw [HRE.out, if_neg (by rw [HC0.out]; simp), if_pos h1]) HT0.out (by rw [if_neg h1]))
    have hal := Grow.of_alloc w5 (.cells #[.slice none 0 0, .slice none 0 0, .slice none 0 0, .int .u64 0] 92)
    have HBa := Lib.hid (HB5.out.grow hal)
    have HGa : Hid (Grow w (w5.alloc (.cells #[.slice none 0 0, .slice none 0 0, .slice none 0 0, .int .u64 0] 92))) := Lib.hid (HG5.out.trans hal)
    have HEa := Lib.hid (HEr.out.grow hal)
    clear h1 hal HX HX0
    go_wp2_with (refine wpList_store_row rfl 32 (.tmp 2) (.tmp 45) rfl g2 #[.bool false, .bool false, .int .u8 0, .int .u8 0, .int .u16 0, .int .u16 0, .int .u32 0, .int .u64 0, .slice none 0 0, .slice none 0 0, .int .i64 0] rfl rfl _ _ HBa.out (by kernel_rfl) rfl (by simp [Value.oneCell']) ?_)
    refine parse_ret (by rfl) (by rfl) (HBa.out.set _) rfl ?_
    exact parse_no HT.out HEa.out HBa.out (fun k h => by simp at h) HGa.out HG2.out _
  have h1' : (tabE l).1 = 0 := by omega
  obtain ⟨B1, d1, B2, d2, hcs, hz, hy⟩ := HX.out h1'
  obtain ⟨rfl, rfl, rfl, rfl⟩ : a = .slice A n c ∧ b = .slice B1 (nP l) d1 ∧ cc = .slice B2 (nS l - 1) d2 ∧ dd = .int .u64 (nI l : Nat) := by
    simpa using hcs
  have HTb := Lib.hid h1'
  obtain rfl : v = .nilIface := by
    rcases HEr.out with ⟨_, _, e⟩ | ⟨a, _⟩
    · exact e
    · omega
  have hal := Grow.of_alloc w5 (.cells #[.slice A n c, .slice B1 (nP l) d1, .slice B2 (nS l - 1) d2, .int .u64 (nI l : Int)] 92)
  have HZ := Lib.hid (hz.grow hal)
  have HY := Lib.hid (hy.grow hal)
  have HH6 := Lib.hid (HH5.out.grow hal)
  have HB6 := Lib.hid (HB5.out.grow hal)
  have HG6 : Hid (Grow w (w5.alloc (.cells #[.slice A n c, .slice B1 (nP l) d1, .slice B2 (nS l - 1) d2, .int .u64 (nI l : Int)] 92))) := Lib.hid (HG5.out.trans hal)
  clear h1 h1' hcs hz hy hal HX HX0 HEr HH5 HB5 HG5
  obtain ⟨v0, v1, v2, v3, v4, v5, v6, v7, v8, v9, v10, v11, v12⟩ := HH6.out.c13
  go_wp2_with fail
  clear v0 v1 v2 v3 v4 v5 v6 v7 v8 v9 v10 v11 v12
  generalize w5.alloc _ = w6 at HZ HY HH6 HB6 HG6 ⊢
  refine (HMd.out HC0.out HTb.out _ HG6.out _ _ _ _ HZ.out HY.out).mono ?_
  rintro e w7 ⟨M1, k1, e1, M2, k2, e2, rfl, hs1, hs2, hg⟩
  have HB7 := Lib.hid (HB6.out.grow hg)
  have HG7 : Hid (Grow w w7) := Lib.hid (HG6.out.trans hg)
  have HR1 := Lib.hid hs1
  have HR2 := Lib.hid hs2
  have HG6s : Hid (g2 < w6.heap.size) := Lib.hid HB6.out.lt
  clear hs1 hs2 hg HB6 HG6 HH6 HZ HY HMd
  have HOf7 := Lib.hid (fun W (hg : Grow w7 W) => HOf.out W M1 k1 e1 M2 k2 e2 (HR1.out.keep hg).zr (HR2.out.keep hg).zr)
  have HCm : Hid (mdC (mdF l) (.slice M1 k1 e1) (.slice M2 k2 e2) = mdC (mdF l) (.slice M1 k1 e1) (.slice M2 k2 e2)) := Lib.hid rfl
  have HYes : Hid (∀ W, (mdF l).planC = 0 → ZR sgK W W.heap.size M1 k1 e1 (mdF l).segs → ZR seK W W.heap.size M2 k2 e2 (mdF l).secs → Grow w W → ParseR l w (.returned (.tuple #[.agg (mdC (mdF l) (.slice M1 k1 e1) (.slice M2 k2 e2)), .nilIface])) W) := Lib.hid fun W h0 h1 h2 hg =>
    ⟨0, 0, mdF l, .nilIface, M1, k1, e1, M2, k2, e2, rfl, HPT.out 0 0 _ (by rw [HRE.out, if_neg (by rw [HC0.out]; simp), if_neg (by rw [HTb.out]; simp), if_neg (by rw [h0]; simp)]) HT0.out (by rw [if_pos rfl]), .inl ⟨rfl, rfl, rfl⟩, h1, h2, hg⟩
  have HNo : Hid ((mdF l).planC ≠ 0 → PTold l (mdF l).planC 0 mdN) := Lib.hid fun h0 => HPT.out _ _ _ (by rw [HRE.out, if_neg (by rw [HC0.out]; simp), if_neg (by rw [HTb.out]; simp), if_pos h0]) HT0.out (by rw [if_neg h0])
  clear HOf HCm HPT HRE HT0 HC0 HTb HVe HN
  unfold mdC at HOf7 HYes ⊢
  generalize (mdF l).planC = C at HOf7 HYes HNo ⊢
  generalize (mdF l).planD = D at HOf7
  generalize (mdF l).segs = Ls at HR1 HYes
  generalize (mdF l).secs = Le at HR2 HYes
  generalize (mdF l).wide = mw at HOf7 HYes ⊢
  generalize (mdF l).big = mb at HOf7 HYes ⊢
  generalize (mdF l).osabi = mo at HOf7 HYes ⊢
  generalize (mdF l).abi = mab at HOf7 HYes ⊢
  generalize (mdF l).typ = mt at HOf7 HYes ⊢
  generalize (mdF l).mach = mm at HOf7 HYes ⊢
  generalize (mdF l).flags = mf at HOf7 HYes ⊢
  generalize (mdF l).entry = me at HOf7 HYes ⊢
  generalize (mdF l).str = ms at HOf7 HYes ⊢
  have hal := Grow.of_alloc w7 (.cells #[.bool mw, .bool mb, .int .u8 (mo : Int), .int .u8 (mab : Int), .int .u16 (mt : Int), .int .u16 (mm : Int), .int .u32 (mf : Int), .int .u64 (me : Int), .slice M1 k1 e1, .slice M2 k2 e2, .int .i64 ms] 32)
  have HM8 := Lib.hid (Blk.new w7 32 #[.bool mw, .bool mb, .int .u8 (mo : Int), .int .u8 (mab : Int), .int .u16 (mt : Int), .int .u16 (mm : Int), .int .u32 (mf : Int), .int .u64 (me : Int), .slice M1 k1 e1, .slice M2 k2 e2, .int .i64 ms])
  have HB8 := Lib.hid (HB7.out.grow hal)
  have HG8 : Hid (Grow w (w7.alloc (.cells #[.bool mw, .bool mb, .int .u8 (mo : Int), .int .u8 (mab : Int), .int .u16 (mt : Int), .int .u16 (mm : Int), .int .u32 (mf : Int), .int .u64 (me : Int), .slice M1 k1 e1, .slice M2 k2 e2, .int .i64 ms] 32))) := Lib.hid (HG7.out.trans hal)
  have HO8 := Lib.hid (HOf7.out _ hal)
  have HR18 := Lib.hid (HR1.out.keep hal)
  have HR28 := Lib.hid (HR2.out.keep hal)
  clear hal HB7 HG7 HOf7 HR1 HR2
  go_wp2_with fail
  generalize w7.alloc _ = w8 at HM8 HB8 HG8 HO8 HR18 HR28 ⊢
  generalize w7.heap.size = g8 at HM8 ⊢
  refine HO8.out.mono ?_
  rintro e w9 ⟨cs, rfl, ⟨Q1, q1, f1, Q2, q2, f2, rfl, -, -⟩, hg⟩
  have HM9 := Lib.hid (HM8.out.grow hg)
  have HB9 := Lib.hid (HB8.out.grow hg)
  have HG9 : Hid (Grow w w9) := Lib.hid (HG8.out.trans hg)
  have HR19 := Lib.hid (HR18.out.keep hg)
  have HR29 := Lib.hid (HR28.out.keep hg)
  clear hg HM8 HB8 HG8 HO8 HR18 HR28
  generalize D.ph = Dp
  generalize D.sh = Ds
  generalize D.sz = Dz
  have hal := Grow.of_alloc w9 (.cells #[.int .u64 (Dp : Int), .int .u64 (Ds : Int), .int .u64 (Dz : Int), .slice Q1 q1 f1, .slice Q2 q2 f2] 61)
  have HMa := Lib.hid (HM9.out.grow hal)
  have HBa := Lib.hid (HB9.out.grow hal)
  have HGa : Hid (Grow w (w9.alloc (.cells #[.int .u64 (Dp : Int), .int .u64 (Ds : Int), .int .u64 (Dz : Int), .slice Q1 q1 f1, .slice Q2 q2 f2] 61))) := Lib.hid (HG9.out.trans hal)
  have HR1a := Lib.hid (HR19.out.keep hal)
  have HR2a := Lib.hid (HR29.out.keep hal)
  clear hal HM9 HB9 HG9 HR19 HR29
  by_cases h1 : C = 0
  · rw [h1, eC_zero]
    have HY2 := Lib.hid (fun W => HYes.out W h1)
    clear h1 HNo HYes
    obtain ⟨v0, v1, v2, v3, v4, v5, v6, v7, v8, v9, v10⟩ := HMa.out.c11
    go_wp2_with (refine wpList_store_row rfl 32 (.tmp 2) (.tmp 63) rfl g2 #[.bool mw, .bool mb, .int .u8 (mo : Int), .int .u8 (mab : Int), .int .u16 (mt : Int), .int .u16 (mm : Int), .int .u32 (mf : Int), .int .u64 (me : Int), .slice M1 k1 e1, .slice M2 k2 e2, .int .i64 ms] rfl rfl _ _ HBa.out (by kernel_rfl) rfl (by simp [Value.oneCell']) ?_)
    refine parse_ret (by rfl) (by rfl) (HBa.out.set _) rfl ?_
    refine HY2.out _ ?_ ?_ (HGa.out.set HG2.out _)
    · exact (HR1a.out.set HG6s.out _).zr
    · exact (HR2a.out.set HG6s.out _).zr
  · rw [eC_some h1]
    have HT := Lib.hid (HNo.out h1)
    have HCp : Hid (0 < C) := Lib.hid (by omega)
    clear h1 HNo HYes HR1a HR2a HMa
    have hal := Grow.of_alloc (w9.alloc (.cells #[.int .u64 (Dp : Int), .int .u64 (Ds : Int), .int .u64 (Dz : Int), .slice Q1 q1 f1, .slice Q2 q2 f2] 61)) (.cells #[.int .i64 0] 81)
    have HCb := Lib.hid (Blk.new (w9.alloc (.cells #[.int .u64 (Dp : Int), .int .u64 (Ds : Int), .int .u64 (Dz : Int), .slice Q1 q1 f1, .slice Q2 q2 f2] 61)) 81 #[.int .i64 0])
    have HBb := Lib.hid (HBa.out.grow hal)
    have HGb := Lib.hid (HGa.out.trans hal)
    have HNe : Hid (g2 ≠ (w9.alloc (.cells #[.int .u64 (Dp : Int), .int .u64 (Ds : Int), .int .u64 (Dz : Int), .slice Q1 q1 f1, .slice Q2 q2 f2] 61)).heap.size) := Lib.hid (by have := HBa.out.lt; omega)
    have HGx : Hid (w.heap.size ≤ (w9.alloc (.cells #[.int .u64 (Dp : Int), .int .u64 (Ds : Int), .int .u64 (Dz : Int), .slice Q1 q1 f1, .slice Q2 q2 f2] 61)).heap.size) := Lib.hid HGa.out.size
    rw [show (w9.alloc (.cells #[.int .u64 (Dp : Int), .int .u64 (Ds : Int), .int .u64 (Dz : Int), .slice Q1 q1 f1, .slice Q2 q2 f2] 61)).heap.size = w9.heap.size + 1 by simp] at HCb HNe HGx
    clear hal HBa HGa
    go_wp2_with fail
    generalize World.alloc (w9.alloc _) _ = wa at HCb HBb HGb ⊢
    generalize w9.heap.size + 1 = gc at HCb HNe HGx ⊢
    refine (as_hit (C : Int) gc wa (HDo.out.grow HGb.out) (HCb.out.at 0) (HCb.out.soft 0)).mono ?_
    rintro e wb ⟨rfl, W, hgW, rfl⟩
    have e9 := setCell_eq_setRow W gc 0 _ 81 (0, 0) (.int .i64 (C : Int)) (HCb.out.grow hgW)
    rw [e9]
    have HCc := Lib.hid ((HCb.out.grow hgW).set (#[.int .i64 (C : Int)]))
    have HBc := Lib.hid ((HBb.out.grow hgW).other HNe.out (#[.int .i64 (C : Int)]))
    have HGc : Hid (Grow w (W.setRow gc #[.int .i64 (C : Int)])) := Lib.hid ((HGb.out.trans hgW).set HGx.out _)
    clear e9 hgW HCb HBb HGb
    have c0 : (W.setRow gc #[.int .i64 (C : Int)]).cell? ⟨gc, 0, none⟩ = some (.int .i64 (C : Int)) := HCc.out.at 0
    go_wp2_with fail
    refine (fspot_0 C _).mono ?_
    rintro e wd ⟨b, rfl, hs, hg⟩
    have HSp := Lib.hid hs
    have HBd := Lib.hid (HBc.out.grow hg)
    have HGd : Hid (Grow w wd) := Lib.hid (HGc.out.trans hg)
    clear hs hg c0 HCc HBc HGc
    go_wp2_with (refine wpList_store_row rfl 32 (.tmp 2) (.tmp 60) rfl g2 #[.bool false, .bool false, .int .u8 0, .int .u8 0, .int .u16 0, .int .u16 0, .int .u32 0, .int .u64 0, .slice none 0 0, .slice none 0 0, .int .i64 0] rfl rfl _ _ HBd.out (by kernel_rfl) rfl (by simp [Value.oneCell']) ?_)
    refine parse_ret (by rfl) (by rfl) (HBd.out.set _) rfl ?_
    exact parse_no HT.out (HSp.out.err HCp.out) HBd.out (fun k h => by simp at h) HGd.out HG2.out _

end Go.Proofs.YtlccbekalccahaaGreatDoor

namespace Go.Proofs.YtlccbekalccahaaGreatDoor
open Go.RowKit
set_option maxRecDepth 100000

theorem Blk.rb {w : World} {g : Nat} {t : TypeId} {l : List UInt8} (h : Blk w g t (l.map byt).toArray) (hm : l.length ≤ maxLen) : RB w w.heap.size (some ⟨g, 0, none⟩) l.length l.length l :=
  ⟨rfl, Nat.le_refl _, hm, fun _ => ⟨g, 0, rfl, h.lt, fun j hj => by
    rw [Nat.zero_add, h.at j]
    simp [byt, hj]⟩⟩
/-- What Parse answers at what was written. -/
def BackR (m : Md) (w : World) (e : Ending) (w' : World) : Prop :=
  ∃ A1 n1 c1 A2 n2 c2, e = .returned (.tuple #[.agg (mdC m (.slice A1 n1 c1) (.slice A2 n2 c2)), .nilIface]) ∧ ZR sgK w' w'.heap.size A1 n1 c1 m.segs ∧ ZR seK w' w'.heap.size A2 n2 c2 m.secs ∧ Grow w w'
theorem parse_back (m : Md) (h : Good m) (L r : List UInt8) (hf : FileIs m L) (hl : (L ++ r).length ≤ 65536) (A : Option Addr) (n c : Nat) (w : World) (hr : RB w w.heap.size A n c (L ++ r)) (hd : Door w) :
    Calls Tryz.prog 11 #[.slice A n c] w (BackR m w) := by
  refine Calls.mono (parse_any _ A n c w hr hd) ?_
  rintro e w' ⟨c, p, m', v, A1, n1, c1, A2, n2, c2, rfl, ht, he, z1, z2, hg⟩
  obtain ⟨rfl, rfl, rfl⟩ := ht.one ((wrote_of h hf hl).back (fun i hi => h.pgFits hi) (fun i hi => h.scFits hi))
  rcases he with ⟨_, _, rfl⟩ | ⟨h0, _⟩
  · exact ⟨A1, n1, c1, A2, n2, c2, rfl, z1, z2, hg⟩
  · omega
theorem ptold_nil {c p : Nat} {m : Md} (h : PTold [] c p m) : c = 2 ∧ p = 0 ∧ m = mdN := by
  have key : ∀ {c p : Nat} {v : Value}, HTold [] c p v → c = 2 ∧ p = 0 := fun h => by
    rcases h with ⟨h0, h1, _⟩ | ⟨h1, _⟩
    · rcases h1 with ⟨h, _⟩ | ⟨h, h', _⟩ | ⟨_, _, _, h, _⟩
      · omega
      · exact ⟨h, h'⟩
      · simp at h
    · rcases h1 with ⟨_, _, _, h⟩ | ⟨h, _⟩ | ⟨h, _⟩
      · simp at h
      · omega
      · omega
  rcases h with ⟨h, _⟩ | ⟨_, _, h, _⟩ | ⟨_, h, _⟩
  · simp at h
  · rename_i e
    exact ⟨(key h).1, (key h).2, e⟩
  · exact absurd (key h).1 (by decide)
theorem parse_nil (w : World) (hd : Door w) : Calls Tryz.prog 11 #[.slice none 0 0] w fun e w' => ∃ A1 c1 A2 c2 v, e = .returned (.tuple #[.agg #[.bool false, .bool false, .int .u8 0, .int .u8 0, .int .u16 0, .int .u16 0, .int .u32 0, .int .u64 0, .slice A1 0 c1, .slice A2 0 c2, .int .i64 0], v]) ∧ Err w' v 2 0 ∧ Grow w w' := by
  refine Calls.mono (parse_any [] none 0 0 w RB.nil hd) ?_
  rintro e w' ⟨c, p, m', v, A1, n1, c1, A2, n2, c2, rfl, ht, he, z1, z2, hg⟩
  obtain ⟨rfl, rfl, rfl⟩ := ptold_nil ht
  obtain rfl : n1 = 0 := z1.len
  obtain rfl : n2 = 0 := z2.len
  exact ⟨A1, c1, A2, c2, v, rfl, he, hg⟩
/-- A model without segments and sections, of Type 2. -/
def md2 : Md := ⟨false, false, 0, 0, 2, 0, 0, 0, [], [], 0⟩
theorem md2_ok : md2.Ok := ⟨by simp [md2], by simp [md2], by simp [md2], by simp [md2], by simp [md2], by simp [md2], by simp [md2], by simp [md2], by unfold I64; simp [md2]⟩
theorem md2_plan : md2.planC = 0 := by decide
theorem md2_eT : md2.eT = 52 := by decide
theorem md2_good : Good md2 := ⟨md2_ok, md2_plan, fun s hs => absurd hs (by simp [md2]), fun s hs => absurd hs (by simp [md2])⟩
theorem encode2 (w : World) : Calls Tryz.prog 8 #[.agg #[.bool false, .bool false, .int .u8 0, .int .u8 0, .int .u16 2, .int .u16 0, .int .u32 0, .int .u64 0, .slice none 0 0, .slice none 0 0, .int .i64 0]] w fun e w' =>
    ∃ g L, e = .returned (.tuple #[.slice (some ⟨g, 0, none⟩) 52 52, .nilIface]) ∧ FileIs md2 L ∧ RB w' w'.heap.size (some ⟨g, 0, none⟩) 52 52 L ∧ Grow w w' := by
  refine Calls.mono (encode_any md2 md2_ok none none 0 0 0 0 w ZR.nil ZR.nil) ?_
  rintro e w' (⟨_, g, L, rfl, hf, hb, _, hg⟩ | ⟨h, _⟩)
  · have hl : L.length = 52 := hf.2.trans md2_eT
    have := hb.rb (by rw [hl]; decide)
    rw [hl] at this ⊢
    exact ⟨g, L, rfl, hf, this, hg⟩
  · exact absurd md2_plan h
theorem parse2 (L : List UInt8) (hf : FileIs md2 L) (A : Option Addr) (w : World) (hr : RB w w.heap.size A 52 52 L) (hd : Door w) : Calls Tryz.prog 11 #[.slice A 52 52] w fun e w' =>
    ∃ A1 c1 A2 n2 c2, e = .returned (.tuple #[.agg #[.bool false, .bool false, .int .u8 0, .int .u8 0, .int .u16 2, .int .u16 0, .int .u32 0, .int .u64 0, .slice A1 0 c1, .slice A2 n2 c2, .int .i64 0], .nilIface]) ∧ Grow w w' := by
  refine Calls.mono (parse_back md2 md2_good L [] hf (by rw [List.append_nil, hf.2, md2_eT]; decide) A 52 52 w (by rw [List.append_nil]; exact hr) hd) ?_
  rintro e w' ⟨A1, n1, c1, A2, n2, c2, rfl, z1, z2, hg⟩
  obtain rfl : n1 = 0 := z1.len
  exact ⟨A1, c1, A2, n2, c2, rfl, hg⟩

set_option maxHeartbeats 4000000 in
theorem up16 (w : World) (hd : Door w) : Calls Tryz.prog 6 #[] w fun e w' => e = .returned (.bool true) ∧ Grow w w' := by
  have HD := Lib.hid hd
  clear hd
  go_enter Tryz.func6, Tryz.ntmps6
  go_wp2_with fail
  refine (parse_nil _ HD.out).mono ?_
  rintro e w1 ⟨A1, c1, A2, c2, v, rfl, he, hg1⟩
  have HE := Lib.hid he
  have HG1 := Lib.hid hg1
  clear he hg1
  go_wp2_with fail
  generalize hW : World.alloc _ _ = W1
  obtain ⟨b1, hg2⟩ := blk1 hW
  clear hW b1
  have HE1 := Lib.hid (HE.out.grow hg2)
  have HG2 : Hid (Grow w W1) := HG1.out.trans hg2
  clear hg2 HG1 HE
  refine (spot_any v 2 0 W1 HE1.out (by decide) (by decide)).mono ?_
  rintro e w2 ⟨rfl, hg3⟩
  have HG3 : Hid (Grow w w2) := HG2.out.trans hg3
  clear hg3 HG2 HE1
  go_wp2_with fail
  refine (encode2 _).mono ?_
  rintro e w3 ⟨g, L, rfl, hf, hr, hg4⟩
  have HF := Lib.hid hf
  have HR := Lib.hid hr
  have HG4 : Hid (Grow w w3) := HG3.out.trans hg4
  have HD4 := Lib.hid (HD.out.grow HG4.out)
  clear hf hr hg4 HG3 HD
  go_wp2_with fail
  refine (parse2 L HF.out _ _ HR.out HD4.out).mono ?_
  rintro e w4 ⟨A3, c3, A4, n4, c4, rfl, hg5⟩
  have HG5 : Hid (Grow w w4) := HG4.out.trans hg5
  clear hg5 HG4 HR HF HD4
  go_wp2
  go_ret
  exact ⟨rfl, HG5.out.trans (Grow.of_alloc _ _)⟩
end Go.Proofs.YtlccbekalccahaaGreatDoor

namespace Go.Proofs.YtlccbekalccahaaGreatDoor
open Go.RowKit

/-- How many bytes all of them have. -/
def Md.sum (m : Md) : Nat := (m.segs.map fun s => s.pl.own.length).sum + (m.secs.map fun s => s.pl.own.length).sum
/-- Whether a model has few of everything. -/
def Md.few (m : Md) : Nat := if 20 < m.segs.length then 0 else if 70 < m.secs.length then 0 else if 100000 < m.sum then 0 else 1
theorem sum_snoc {α : Type} (f : α → Nat) (l : List α) (k : Nat) (h : k < l.length) : ((l.take (k + 1)).map f).sum = ((l.take k).map f).sum + f l[k] := by
  rw [takeS l k h, List.map_append, List.sum_append]
  simp
theorem sum_le {α : Type} (f : α → Nat) (b : Nat) : ∀ (l : List α), (∀ a ∈ l, f a ≤ b) → (l.map f).sum ≤ l.length * b
  | [], _ => by simp
  | a :: r, h => by
    have := sum_le f b r fun x hx => h x (List.mem_cons_of_mem _ hx)
    have := h a (by simp)
    simp only [List.map_cons, List.sum_cons, List.length_cons, Nat.succ_mul]
    omega
theorem sum_take_le {α : Type} (f : α → Nat) (l : List α) (k : Nat) : ((l.take k).map f).sum ≤ (l.map f).sum := by
  have : (l.map f).sum = ((l.take k).map f).sum + ((l.drop k).map f).sum := by
    rw [← List.sum_append, ← List.map_append, List.take_append_drop]
  omega

set_option maxHeartbeats 1000000 in
theorem few_any (m : Md) (A1 A2 : Option Addr) (n1 c1 n2 c2 : Nat) (w : World) (g1 : ZR sgK w w.heap.size A1 n1 c1 m.segs) (g2 : ZR seK w w.heap.size A2 n2 c2 m.secs) (hsm0 : n1 ≤ 20 → n2 ≤ 70 → m.sum ≤ 4000000000000000000) :
    Calls Tryz.prog 7 #[.agg (mdC m (.slice A1 n1 c1) (.slice A2 n2 c2))] w fun e w' => e = .returned (.int .i64 (m.few : Nat)) ∧ Grow w w' := by
  obtain ⟨x0, x1, x2, x3, x4, x5, x6, x7, x10, hC⟩ : ∃ x0 x1 x2 x3 x4 x5 x6 x7 x10 : Value, mdC m (.slice A1 n1 c1) (.slice A2 n2 c2) = #[x0, x1, x2, x3, x4, x5, x6, x7, .slice A1 n1 c1, .slice A2 n2 c2, x10] := ⟨_, _, _, _, _, _, _, _, _, rfl⟩
  rw [hC]
  have hm1 := g1.max
  have hc1 := g1.cap
  have hm2 := g2.max
  have hc2 := g2.cap
  have HZ1 := Lib.hid g1
  have HZ2 := Lib.hid g2
  have HL1 := Lib.hid g1.len
  have HL2 := Lib.hid g2.len
  have E := Lib.hid (show m.few = if 20 < n1 then 0 else if 70 < n2 then 0 else if 100000 < m.sum then 0 else 1 by rw [g1.len, g2.len]; rfl)
  have ES : Hid (m.sum = (m.segs.map fun s => s.pl.own.length).sum + (m.secs.map fun s => s.pl.own.length).sum) := Lib.hid rfl
  generalize m.few = R at E ⊢
  generalize m.sum = S at E ES hsm0
  generalize m.segs = L1 at HZ1 HL1 ES
  generalize m.secs = L2 at HZ2 HL2 ES
  have HA : Hid (∀ k, ((L1.take k).map fun s => s.pl.own.length).sum ≤ S) := Lib.hid fun k => by
    have := sum_take_le (fun s : Sg => s.pl.own.length) L1 k
    have := ES.out
    omega
  have HB : Hid (∀ k, (L1.map fun s => s.pl.own.length).sum + ((L2.take k).map fun s => s.pl.own.length).sum ≤ S) := Lib.hid fun k => by
    have := sum_take_le (fun s : Se => s.pl.own.length) L2 k
    have := ES.out
    omega
  clear hC g1 g2
  unfold maxLen at hm1 hm2
  by_cases h1 : 20 < n1
  · have E2 := Lib.hid (show R = 0 by rw [E.out, if_pos h1])
    go_enter Tryz.func7, Tryz.ntmps7
    go_wp2
    go_ret
    exact ⟨by rw [E2.out]; rfl, Grow.of_alloc _ _⟩
  rw [if_neg h1] at E
  have d1 : decide (20 < n1) = false := decide_eq_false h1
  have d1' : decide ((20 : Int) < (n1 : Int)) = false := decide_eq_false (by omega)
  by_cases h2 : 70 < n2
  · have E2 := Lib.hid (show R = 0 by rw [E.out, if_pos h2])
    clear h1
    go_enter Tryz.func7, Tryz.ntmps7
    go_wp2
    go_ret
    exact ⟨by rw [E2.out]; rfl, Grow.of_alloc _ _⟩
  rw [if_neg h2] at E
  have d2 : decide (70 < n2) = false := decide_eq_false h2
  have d2' : decide ((70 : Int) < (n2 : Int)) = false := decide_eq_false (by omega)
  have HH : Hid (n1 ≤ 20 ∧ n2 ≤ 70) := Lib.hid ⟨by omega, by omega⟩
  have hsm := hsm0 (by omega) (by omega)
  clear h1 h2 hsm0
  go_enter Tryz.func7, Tryz.ntmps7
  go_wp2_with fail
  clear d1 d1' d2 d2'
  generalize hW : World.alloc _ _ = W0
  obtain ⟨b1, hg0⟩ := blk1 hW
  clear hW
  have HB1 := Lib.hid b1
  have HG0 := Lib.hid hg0
  have y8 := b1.at 8
  clear b1 hg0
  go_loop [3, 4] (fun x i => ∃ (k : Nat) (t : Nat), k ≤ n1 ∧ i = .int .i64 k ∧ x = .int .i64 (t : Nat) ∧ Hid (t = ((L1.take k).map fun s => s.pl.own.length).sum)) (fun _ i => n1 - (intOf i).toNat)
  case atStart => exact ⟨0, 0, by omega, rfl, rfl, Lib.hid (by simp)⟩
  case round =>
    obtain ⟨k, t, hk, rfl, rfl, HT⟩ := hrel
    by_cases hlt : k < n1
    · have hkl : k < L1.length := by rw [← HL1.out]; exact hlt
      obtain ⟨b, off, rfl, hb⟩ := HZ1.out.pos (by omega)
      obtain ⟨Ak, nk, ck, -, hcell, gk⟩ := HZ1.out.at hkl
      have t9 : W0.cell? ⟨b, off + k * 10 + 9, none⟩ = some (.slice Ak nk ck) := (Below.cell HG0.out hb).trans (hcell 9 _ rfl)
      have HS := Lib.hid (sum_snoc (fun s : Sg => s.pl.own.length) L1 k hkl)
      have hnk : L1[k].pl.own.length = nk := gk.len.symm
      have hle := HA.out (k + 1)
      rw [HS.out, ← HT.out] at hle
      simp only [hnk] at HS hle
      rw [← HT.out] at HS
      clear hcell gk hb hnk
      have z : IntKind.i64.wrap ((t : Int) + (nk : Int)) = ((t + nk : Nat) : Int) := by rw [IntKind.wrap_i64]; omega
      go_wp2
      go_round
      case rel => exact ⟨k + 1, t + nk, by omega, by go_num, by first | rfl | simp, Lib.hid HS.out.symm⟩
      case measure => simp [intOf]; omega
    · obtain rfl : n1 = k := by omega
      have HT1 : Hid (t = (L1.map fun s => s.pl.own.length).sum) := by
        have : L1.take n1 = L1 := by rw [List.take_of_length_le (by have := HL1.out; omega)]
        have h := HT.out
        rw [this] at h
        exact h
      have y9 := HB1.out.at 9
      clear HT
      go_wp2_with fail
      clear y8
      go_loop [3, 5] (fun x i => ∃ (k : Nat) (t' : Nat), k ≤ n2 ∧ i = .int .i64 k ∧ x = .int .i64 (t' : Nat) ∧ Hid (t' = t + ((L2.take k).map fun s => s.pl.own.length).sum)) (fun _ i => n2 - (intOf i).toNat)
      case atStart => exact ⟨0, t, by omega, rfl, rfl, Lib.hid (by simp)⟩
      case round =>
        obtain ⟨k, t', hk, rfl, rfl, HT⟩ := hrel
        by_cases hlt : k < n2
        · have hkl : k < L2.length := by rw [← HL2.out]; exact hlt
          obtain ⟨b, off, rfl, hb⟩ := HZ2.out.pos (by omega)
          obtain ⟨Ak, nk, ck, -, hcell, gk⟩ := HZ2.out.at hkl
          have t9 : W0.cell? ⟨b, off + k * 13 + 12, none⟩ = some (.slice Ak nk ck) := (Below.cell HG0.out hb).trans (hcell 12 _ rfl)
          have HS := Lib.hid (sum_snoc (fun s : Se => s.pl.own.length) L2 k hkl)
          have hnk : L2[k].pl.own.length = nk := gk.len.symm
          have hle := HB.out (k + 1)
          rw [HS.out, ← HT1.out, ← Nat.add_assoc, ← HT.out] at hle
          simp only [hnk] at HS hle
          have HS2 : Hid (t' + nk = t + ((L2.take (k + 1)).map fun s => s.pl.own.length).sum) := Lib.hid (by rw [HS.out, ← Nat.add_assoc, ← HT.out])
          clear hcell gk hb hnk HS
          have z : IntKind.i64.wrap ((t' : Int) + (nk : Int)) = ((t' + nk : Nat) : Int) := by rw [IntKind.wrap_i64]; omega
          go_wp2
          go_round
          case rel => exact ⟨k + 1, t' + nk, by omega, by go_num, by first | rfl | simp, HS2⟩
          case measure => simp [intOf]; omega
        · obtain rfl : n2 = k := by omega
          have HS : Hid (t' = S) := by
            have : L2.take n2 = L2 := by rw [List.take_of_length_le (by have := HL2.out; omega)]
            have h := HT.out
            rw [this, HT1.out, ← ES.out] at h
            exact h
          by_cases hb : 100000 < t'
          · have E2 := Lib.hid (show R = 0 by rw [E.out, ← HS.out, if_pos hb])
            have d : decide (100000 < t') = true := decide_eq_true hb
            have d' : decide ((100000 : Int) < (t' : Int)) = true := decide_eq_true (by omega)
            clear hb
            go_wp2
            go_ret
            exact ⟨by rw [E2.out]; rfl, HG0.out⟩
          · have E2 := Lib.hid (show R = 1 by rw [E.out, ← HS.out, if_neg hb])
            have d : decide (100000 < t') = false := decide_eq_false hb
            have d' : decide ((100000 : Int) < (t' : Int)) = false := decide_eq_false (by omega)
            clear hb
            go_wp2
            go_ret
            exact ⟨by rw [E2.out]; rfl, HG0.out⟩
end Go.Proofs.YtlccbekalccahaaGreatDoor
