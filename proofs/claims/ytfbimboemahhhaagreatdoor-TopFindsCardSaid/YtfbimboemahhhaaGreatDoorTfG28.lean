/-
  Several texts in one: The contract of file.
-/
import Derived.Test.YtfbimboemahhhaaGreatDoorTfG27
import Derived.Test.YtfbimboemahhhaaGreatDoorTfG12
namespace Go.Proofs.YtfbimboemahhhaaGreatDoor
open Go.Lib (hid)
open Go.RowKit
set_option maxRecDepth 100000
set_option linter.unusedVariables false
def WriteR (m : Md) (w : World) (e : Ending) (w' : World) : Prop :=
 ∃ g L, e = .returned (.slice (some ⟨g, 0, none⟩) L.length L.length) ∧ FileIs m L ∧ Blk w' g 5 (L.map byt).toArray ∧ w.heap.size ≤ g ∧ Grow w w'
theorem Good.pgOk {m : Md} (h : Good m) {k : Nat} (hk : k < m.segs.length) : (m.pg k).Ok := by
 have o := h.ok.segs _ (m.sg_mem hk)
 have a := h.seg_at hk
 have b := h.eT
 refine ⟨o.typ, o.flags, ?_, o.vaddr, o.paddr, o.pl.size, o.memsz, o.align⟩
 show m.P2 k < _
 omega
theorem Good.scOk {m : Md} (h : Good m) {k : Nat} (hk : k < m.secs.length) : (m.sc k).Ok := by
 have o := h.ok.secs _ (m.se_mem hk)
 have a := h.sec_at hk
 have b := h.eT
 refine ⟨o.name, o.typ, o.flags, o.addr, ?_, o.size, o.link, o.info, o.align, o.entsize⟩
 show m.P3 k < _
 omega
theorem Good.pgFits {m : Md} (h : Good m) {k : Nat} (hk : k < m.segs.length) : rowF ((m.pg k).Q m.wide) = true := by
 have ok := h.pgOk hk
 have a := h.seg_at hk
 have b := h.eT
 have n := h.segNum hk
 have n1 := n (m.sg k).vaddr (by simp [Sg.nums])
 have n2 := n (m.sg k).paddr (by simp [Sg.nums])
 have n3 := n (m.sg k).memsz (by simp [Sg.nums])
 have n4 := n (m.sg k).align (by simp [Sg.nums])
 have e1 : (m.pg k).off = m.P2 k := rfl
 have e2 : (m.pg k).va = (m.sg k).vaddr := rfl
 have e3 : (m.pg k).pa = (m.sg k).paddr := rfl
 have e4 : (m.pg k).fs = (m.sg k).pl.size := rfl
 have e5 : (m.pg k).ms = (m.sg k).memsz := rfl
 have e6 : (m.pg k).al = (m.sg k).align := rfl
 obtain ⟨k1, k2, k3, k4, k5, k6, k7, k8⟩ := ok
 have p4 : (256 : Nat) ^ 4 = 4294967296 := by decide
 have p8 : (256 : Nat) ^ 8 = 18446744073709551616 := by decide
 generalize m.pg k = p at *
 cases hw : m.wide
 ·rw [hw] at n1 n2 n3 n4
  rw [show (256 : Nat) ^ byWide false 4 8 = 4294967296 from rfl] at n1 n2 n3 n4
  rw [show p.Q false = [(p.ty, 4), (p.off, 4), (p.va, 4), (p.pa, 4), (p.fs, 4), (p.ms, 4), (p.fl, 4), (p.al, 4)] from rfl]
  simp only [rowF, Bool.and_true, Bool.and_eq_true, decide_eq_true_eq, p4]
  omega
 ·rw [show p.Q true = [(p.ty, 4), (p.fl, 4), (p.off, 8), (p.va, 8), (p.pa, 8), (p.fs, 8), (p.ms, 8), (p.al, 8)] from rfl]
  simp only [rowF, Bool.and_true, Bool.and_eq_true, decide_eq_true_eq, p4, p8]
  omega
theorem Good.scFits {m : Md} (h : Good m) {k : Nat} (hk : k < m.secs.length) : rowF ((m.sc k).Q m.wide) = true := by
 have ok := h.scOk hk
 have a := h.sec_at hk
 have b := h.eT
 have n := h.secNum hk
 have n1 := n (m.se k).flags (by simp [Se.nums])
 have n2 := n (m.se k).addr (by simp [Se.nums])
 have n3 := n (m.se k).size (by simp [Se.nums])
 have n4 := n (m.se k).align (by simp [Se.nums])
 have n5 := n (m.se k).entsize (by simp [Se.nums])
 have e1 : (m.sc k).off = m.P3 k := rfl
 have e2 : (m.sc k).fl = (m.se k).flags := rfl
 have e3 : (m.sc k).ad = (m.se k).addr := rfl
 have e4 : (m.sc k).sz = (m.se k).size := rfl
 have e5 : (m.sc k).al = (m.se k).align := rfl
 have e6 : (m.sc k).en = (m.se k).entsize := rfl
 have hp := pow48 m.wide
 obtain ⟨k1, k2, k3, k4, k5, k6, k7, k8, k9, k10⟩ := ok
 have p4 : (256 : Nat) ^ 4 = 4294967296 := by decide
 unfold Sc.Q Sc.N sRow
 generalize m.sc k = p at *
 simp only [List.zip_cons_cons, List.zip_nil_right, rowF, Bool.and_true, Bool.and_eq_true, decide_eq_true_eq, p4]
 generalize 256 ^ byWide m.wide 4 8 = V at *
 omega
set_option maxHeartbeats 20000000 in
theorem write_any (m : Md) (h : Good m) (A1 A2 A3 A4 : Option Addr) (n1 c1 n2 c2 n3 c3 n4 c4 : Nat) (w : World) (g1 : ZR sgK w w.heap.size A1 n1 c1 m.segs) (g2 : ZR seK w w.heap.size A2 n2 c2 m.secs)
  (p1 : NS w w.heap.size .u64 A3 n3 c3 ((List.range m.segs.length).map m.P2)) (p2 : NS w w.heap.size .u64 A4 n4 c4 ((List.range m.secs.length).map m.P3)) :
  Calls Tryz.prog 39 #[.agg (mdC m (.slice A1 n1 c1) (.slice A2 n2 c2)), .agg #[.int .u64 (m.phoff : Nat), .int .u64 (m.shoff : Nat), .int .u64 (m.eT : Nat), .slice A3 n3 c3, .slice A4 n4 c4]] w (WriteR m w) := by
 have HH := hid (fun W => flHeader_any m h A1 A2 n1 c1 n2 c2 (.slice A3 n3 c3) (.slice A4 n4 c4) W g1.len g2.len)
 have HHp : Hid (∀ W, Calls Tryz.prog 74 #[m.hd.V] W fun e w' => ∃ A c, e = .returned (.tuple #[.slice A m.hd.L.length c, .nilIface]) ∧ RB w' w'.heap.size A m.hd.L.length c m.hd.L ∧ Grow W w') := hid fun W => (hPut_any m.hd h.hdOk W).mono fun e w' hp => by
  rcases hp with ⟨_, A, c, e1, e2, e3⟩ | ⟨hf, _⟩
  ·exact ⟨A, c, e1, e2.rb, e3⟩
  ·rw [h.hdFits] at hf; cases hf
 have HPo := hid (fun k (V : Value) W => progOf_any (m.sg k) (m.P2 k) V W)
 have HPp : Hid (∀ k, k < n1 → ∀ W, Calls Tryz.prog 76 #[(m.pg k).V, .agg #[.bool m.wide, .bool m.big]] W fun e w' => ∃ A c, e = .returned (.tuple #[.slice A (pSize m.wide) c, .nilIface]) ∧ RB w' w'.heap.size A (pSize m.wide) c ((m.pg k).L m.wide m.big) ∧ Grow W w') := hid fun k hk W => (pPut_any (m.pg k) (h.pgOk (by rw [← g1.len]; exact hk)) m.wide m.big W).mono fun e w' hp => by
  rcases hp with ⟨_, A, c, e1, e2, e3⟩ | ⟨hf, _⟩
  ·rw [Pg.lenL] at e1 e2
   exact ⟨A, c, e1, e2.rb, e3⟩
  ·rw [h.pgFits (by rw [← g1.len]; exact hk)] at hf; cases hf
 have HSo := hid (fun k (V : Value) W => sectOf_any (m.se k) (m.P3 k) V W)
 have HSp : Hid (∀ k, k < n2 → ∀ W, Calls Tryz.prog 80 #[(m.sc k).V, .agg #[.bool m.wide, .bool m.big]] W fun e w' => ∃ A c, e = .returned (.tuple #[.slice A (sSize m.wide) c, .nilIface]) ∧ RB w' w'.heap.size A (sSize m.wide) c ((m.sc k).L m.wide m.big) ∧ Grow W w') := hid fun k hk W => (sPut_any (m.sc k) (h.scOk (by rw [← g2.len]; exact hk)) m.wide m.big W).mono fun e w' hp => by
  rcases hp with ⟨_, A, c, e1, e2, e3⟩ | ⟨hf, _⟩
  ·rw [Sc.lenL] at e1 e2
   exact ⟨A, c, e1, e2.rb, e3⟩
  ·rw [h.scFits (by rw [← g2.len]; exact hk)] at hf; cases hf
 have HPs := hid (fun W => pSize_any m.wide m.big W)
 have HSs := hid (fun W => sSize_any m.wide m.big W)
 have hT := h.eT
 have hmk : ∀ W : World, (Instr.makeSlice 29 (.int .u64 (m.eT : Int)) (.int .u64 (m.eT : Int))).run Tryz.prog W = .ok (.slice (some ⟨W.heap.size, 0, none⟩) m.eT m.eT) (W.alloc (.cells (((List.replicate m.eT (0 : UInt8)).map byt).toArray) 5)) := fun W => by
  have := run_make_row' (P := Tryz.prog) 29 5 (.int .u8 0) 1 Tryz.underlying29 (by kernel_rfl) rfl .u64 .u64 m.eT (by omega) (by omega) W
  rw [made_zeros] at this
  exact this
 have HL0 : Hid (Laid (fun _ _ => False) (List.replicate m.eT 0) ∧ (List.replicate m.eT (0 : UInt8)).length = m.eT) := hid ⟨Laid.none _, List.length_replicate⟩
 have HLen1 := hid g1.len
 have HLen2 := hid g2.len
 have HZ1 := hid g1
 have HZ2 := hid g2
 have HR1 := hid p1
 have HR2 := hid p2
 have HGood := hid h
 have hz1 := g1.max
 have hz1c := g1.cap
 have hz2 := g2.max
 have hz2c := g2.cap
 unfold maxLen at hz1 hz2
 have HN1 := hid h.n1
 have HN2 := hid h.n2
 clear g1 g2 p1 p2
 obtain ⟨x2, x3, x4, x5, x6, x7, x10, hC⟩ : ∃ x2 x3 x4 x5 x6 x7 x10 : Value, mdC m (.slice A1 n1 c1) (.slice A2 n2 c2) = #[.bool m.wide, .bool m.big, x2, x3, x4, x5, x6, x7, .slice A1 n1 c1, .slice A2 n2 c2, x10] := ⟨_, _, _, _, _, _, _, rfl⟩
 rw [hC] at HH ⊢
 obtain ⟨T, hTe⟩ : ∃ T, m.eT = T := ⟨_, rfl⟩
 have HT := hid hTe
 rw [hTe] at hmk HL0 HH hT ⊢
 generalize List.replicate T (0 : UInt8) = L0 at hmk HL0
 obtain ⟨wide, hw⟩ : ∃ x, x = m.wide := ⟨_, rfl⟩
 obtain ⟨big, hb⟩ : ∃ x, x = m.big := ⟨_, rfl⟩
 have HWi := hid hw
 have HBi := hid hb
 rw [← hw, ← hb] at HH HPs HSs ⊢
 rw [← hw, ← hb] at HPp HSp
 obtain ⟨hdV, hhd⟩ : ∃ V, m.hd.V = V := ⟨_, rfl⟩
 rw [hhd] at HH HHp
 obtain ⟨hl, hhl⟩ : ∃ V, m.hd.L.length = V := ⟨_, rfl⟩
 rw [hhl] at HHp
 have HHl := hid hhl
 obtain ⟨ph, hph⟩ : ∃ x, m.phoff = x := ⟨_, rfl⟩
 obtain ⟨sh, hsh⟩ : ∃ x, m.shoff = x := ⟨_, rfl⟩
 have HPh := hid hph
 have HSh := hid hsh
 rw [hph, hsh] at HH ⊢
 clear hC hTe hhd hhl hph hsh hw hb h
 go_enter Tryz.func39, Tryz.ntmps39
 go_wp2_with fail
 clear hmk
 generalize hW : World.alloc _ _ = W0
 obtain ⟨b1, b2, b3, b4, hg⟩ := blk4 hW
 clear hW
 have HA : Hid (WA w w.heap.size (w.heap.size + 1) (w.heap.size + 1 + 1) (w.heap.size + 1 + 1 + 1)) := hid ⟨by omega, by omega, by omega, by omega⟩
 have HS : Hid (WS w W0 w.heap.size (w.heap.size + 1) (w.heap.size + 1 + 1) (w.heap.size + 1 + 1 + 1) 51 104 23 5 _ _ _ L0) := hid ⟨b1, b2, b3, b4, hg⟩
 clear b1 b2 b3 b4 hg
 have HGe : Hid (w.heap.size ≤ w.heap.size + 1 + 1 + 1) := hid (by omega)
 generalize w.heap.size + 1 + 1 + 1 = gB at HA HS HGe ⊢
 generalize w.heap.size + 1 + 1 = gf at HA HS ⊢
 generalize w.heap.size + 1 = gp at HA HS ⊢
 obtain ⟨gm, hgm⟩ : ∃ g, g = w.heap.size := ⟨_, rfl⟩
 rw [← hgm] at HS HA ⊢
 clear hgm
 refine (HH.out _).mono ?_
 rintro e w1 ⟨rfl, hg⟩
 have HS1 := hid (HS.out.grow hg)
 clear hg HS HH
 go_wp2_with fail
 refine (HHp.out _).mono ?_
 rintro e w2 ⟨A, c, rfl, hr, hg⟩
 have HS2 := hid (HS1.out.grow hg)
 clear hg HS1 HHp
 have hhl0 : m.hd.L.length ≤ L0.length := by
  have h1 := HGood.out.planned.order
  have h2 : m.hd.L.length = hSize m.wide := m.hd.lenL
  have h3 := HL0.out.2
  have h4 := HT.out
  omega
 have hcp := run_copy_put0 (P := Tryz.prog) w2 29 29 3 5 gB T L0 m.hd.L A hl c _ 5 Tryz.underlying29 (by kernel_rfl) HS2.out.b HL0.out.2.symm hr hhl0
 have HLa : Hid (Laid (Stg m 0 0 0 0) (put L0 0 m.hd.L) ∧ (put L0 0 m.hd.L).length = T) := hid ⟨first_laid HL0.out.1 hhl0, (put_len (by omega)).trans HL0.out.2⟩
 have HS3 := hid (HS2.out.set HA.out (put L0 0 m.hd.L))
 clear hhl0
 generalize put L0 0 m.hd.L = L1 at hcp HLa HS3
 have v8 : (w2.setRow gB (L1.map byt).toArray).cell? ⟨gm, 8, none⟩ = some (.slice A1 n1 c1) := HS3.out.m.at 8
 generalize w2.setRow gB (L1.map byt).toArray = w3 at hcp HS3 v8
 clear HS2 hr HL0
 go_wp2_with fail
 clear hcp v8
 go_loopw [36] (fun i wr => ∃ (k : Nat) (L : List UInt8), k ≤ n1 ∧ i = .int .i64 k ∧ WS w wr gm gp gf gB 51 104 23 5 #[.bool wide, .bool big, x2, x3, x4, x5, x6, x7, .slice A1 n1 c1, .slice A2 n2 c2, x10] #[.int .u64 (ph : Int), .int .u64 (sh : Int), .int .u64 (T : Int), .slice A3 n3 c3, .slice A4 n4 c4] #[.bool wide, .bool big] L ∧ Laid (Stg m k k 0 0) L ∧ L.length = T) (fun i _ => n1 - (intOf i).toNat)
 case atStart => exact ⟨0, L1, by omega, rfl, HS3.out, HLa.out.1, HLa.out.2⟩
 case round =>
  obtain ⟨k, L, hk, rfl, hws, hla, hlen⟩ := hrel
  have HS4 := hid hws
  have HLk := hid hla
  have HLn := hid hlen
  clear hws hla hlen HS3 HLa
  by_cases hlt : k < n1
  ·have hkl : k < m.segs.length := by rw [← HLen1.out]; exact hlt
   obtain ⟨b, off, hAA, hb⟩ := HZ1.out.pos (by omega)
   obtain ⟨br, offr, hAR, hbr, hcr⟩ := HR1.out.pos (by have := HR1.out.len; simp at this; omega)
   subst hAA
   subst hAR
   obtain ⟨Ak, nk, ck, -, hcell, gk⟩ := HZ1.out.at hkl
   have hse : m.segs[k] = m.sg k := by unfold Md.sg; rw [List.getD_eq_getElem?_getD, List.getElem?_eq_getElem hkl]; rfl
   rw [hse] at hcell gk
   have hcell' : ∀ i v, (sgC (m.sg k) (.slice Ak nk ck))[i]? = some v → wr.cell? ⟨b, off + k * 10 + i, none⟩ = some v := fun i v hv => (Below.cell HS4.out.w hb).trans (hcell i v hv)
   have hcrk := hcr k (by simpa using hkl)
   simp only [List.getElem_map, List.getElem_range] at hcrk
   have HRow := hid hcrk
   have HBr := hid hbr
   have HKl := hid hkl
   have HNr : Hid (k < n3) := hid (by have := HR1.out.len; simp at this; omega)
   have HGk : Hid (RB wr w.heap.size Ak nk ck (m.sg k).pl.own) := hid (gk.belowAt HS4.out.w (Nat.le_refl _))
   have HPo' : Hid (∀ W, Calls Tryz.prog 77 #[.agg (sgC (m.sg k) (.slice Ak nk ck)), .int .u64 (m.P2 k : Nat)] W fun e w' => e = .returned (m.pg k).V ∧ Grow W w') := hid (fun W => HPo.out k (.slice Ak nk ck) W)
   have HPp' := hid (fun W => HPp.out k hlt W)
   have HAt := hid (Good.seg_at HGood.out HKl.out)
   have HZk := hid (Good.z1 HGood.out HKl.out)
   have hq1 : ph + k * pSize wide + pSize wide ≤ T := by
    have h1 := HZk.out.2
    have h2 := HT.out
    have h3 := HGood.out.planned.order
    rw [Pg.lenL, ← HWi.out, HPh.out] at h1
    omega
   have HQ1 := hid hq1
   have HOwn : Hid (m.P2 k + (m.sg k).pl.own.length ≤ T) := hid (by have h1 := HAt.out; have h2 := HT.out; omega)
   clear hcr hcrk hbr hcell gk hkl hse
   unfold sgC at hcell' HPo'
   have HLkE : Hid (∀ L, Laid (Stg m k k 0 0) L → L.length = T → Laid (Stg m (k + 1) k 0 0) (put L (ph + k * pSize wide) ((m.pg k).L wide big))) := hid fun L h1 h2 => by
    have h3 := HZk.out.2
    have h4 := HT.out
    have h5 := HGood.out.planned.order
    rw [← HPh.out, HWi.out, HBi.out]
    exact HGood.out.putA h1 HKl.out (by have := HKl.out; omega) (by omega) (by omega) (by omega)
   have HLkF : Hid (∀ L, Laid (Stg m (k + 1) k 0 0) L → L.length = T → Laid (Stg m (k + 1) (k + 1) 0 0) (put L (m.P2 k) (m.sg k).pl.own)) := hid fun L h1 h2 => by
    have h3 := HOwn.out
    exact HGood.out.putB h1 (by have := HKl.out; omega) HKl.out (by omega) (by omega) (by omega)
   generalize (m.pg k).V = pv at HPo' HPp'
   generalize (m.pg k).L wide big = pl at HPp' HLkE
   generalize (m.sg k).pl.own = ow at HGk HOwn HLkF
   generalize m.P2 k = pk at HPo' HRow HOwn HLkF
   generalize m.sg k = s at hcell' HPo'
   have t0 : wr.cell? ⟨b, off + k * 10, none⟩ = _ := hcell' 0 _ rfl
   have t1 := hcell' 1 _ rfl
   have t2 := hcell' 2 _ rfl
   have t3 := hcell' 3 _ rfl
   have t4 := hcell' 4 _ rfl
   have t5 := hcell' 5 _ rfl
   have t6 := hcell' 6 _ rfl
   have t7 := hcell' 7 _ rfl
   have t8 := hcell' 8 _ rfl
   have t9 := hcell' 9 _ rfl
   clear hcell'
   have hne : ¬ (gf = wr.heap.size) := by have := HS4.out.f.lt; omega
   have hne2 : ¬ (gp = wr.heap.size) := by have := HS4.out.p.lt; omega
   go_wp2_with fail
   refine wp_region_leap (leap_bar gB) [(0, true), (1, true), (2, true), (3, true), (4, true), (5, true), (7, true), (6, false), (8, false), (9, true), (10, true), (11, true), (12, true), (13, true)] (by kernel_rfl) (by kernel_rfl) (by kernel_rfl) ?_
   generalize hW : World.alloc _ _ = W5
   obtain ⟨b5, hg5⟩ := blk1 hW
   clear hW t0 t1 t2 t3 t4 t5 t6 t7 t8 t9 hne hne2
   have HNs : Hid (wr.heap.size ≠ gB) := hid (by have := HS4.out.b.lt; omega)
   generalize wr.heap.size = gs at b5 HNs ⊢
   have HS5 := hid (HS4.out.grow hg5).drew
   have HB5 := hid b5.drew
   have HK5 := hid ((HGk.out.belowAt hg5 (by have := HS4.out.w.size; exact this)).drew)
   clear b5 hg5 HS4 HGk
   generalize W5.drew = w5 at HS5 HB5 HK5 ⊢
   have q0 : ∀ W, Bar gB w5 W → W.cell? ⟨gs, 0, none⟩ = some (.int .u32 (s.typ : Nat)) := fun W hW => (HB5.out.bar hW HNs.out).at 0
   have q1 : ∀ W, Bar gB w5 W → W.cell? ⟨gs, 1, none⟩ = some (.int .u32 (s.flags : Nat)) := fun W hW => (HB5.out.bar hW HNs.out).at 1
   have q2 : ∀ W, Bar gB w5 W → W.cell? ⟨gs, 2, none⟩ = some (.int .u64 (s.vaddr : Nat)) := fun W hW => (HB5.out.bar hW HNs.out).at 2
   have q3 : ∀ W, Bar gB w5 W → W.cell? ⟨gs, 3, none⟩ = some (.int .u64 (s.paddr : Nat)) := fun W hW => (HB5.out.bar hW HNs.out).at 3
   have q4 : ∀ W, Bar gB w5 W → W.cell? ⟨gs, 4, none⟩ = some (.int .u64 (s.memsz : Nat)) := fun W hW => (HB5.out.bar hW HNs.out).at 4
   have q5 : ∀ W, Bar gB w5 W → W.cell? ⟨gs, 5, none⟩ = some (.int .u64 (s.align : Nat)) := fun W hW => (HB5.out.bar hW HNs.out).at 5
   have q6 : ∀ W, Bar gB w5 W → W.cell? ⟨gs, 6, none⟩ = some (.int .i64 s.pl.inn) := fun W hW => (HB5.out.bar hW HNs.out).at 6
   have q7 : ∀ W, Bar gB w5 W → W.cell? ⟨gs, 7, none⟩ = some (.int .u64 (s.pl.off : Nat)) := fun W hW => (HB5.out.bar hW HNs.out).at 7
   have q8 : ∀ W, Bar gB w5 W → W.cell? ⟨gs, 8, none⟩ = some (.int .u64 (s.pl.size : Nat)) := fun W hW => (HB5.out.bar hW HNs.out).at 8
   have q9 : ∀ W, Bar gB w5 W → W.cell? ⟨gs, 9, none⟩ = some (.slice Ak nk ck) := fun W hW => (HB5.out.bar hW HNs.out).at 9
   have r3 : ∀ W, Bar gB w5 W → W.cell? ⟨gp, 3, none⟩ = some (.slice (some ⟨br, offr, none⟩) n3 c3) := fun W hW => (HS5.out.p.bar hW HA.out.p).at 3
   have rk : ∀ W, Bar gB w5 W → W.cell? ⟨br, offr + k, none⟩ = some (.int .u64 (pk : Int)) := fun W hW => HS5.out.cell HA.out hW HBr.out HRow.out
   have f0 : ∀ W, Bar gB w5 W → W.cell? ⟨gf, 0, none⟩ = some (.bool wide) := fun W hW => (HS5.out.f.bar hW HA.out.f).at 0
   have f1 : ∀ W, Bar gB w5 W → W.cell? ⟨gf, 1, none⟩ = some (.bool big) := fun W hW => (HS5.out.f.bar hW HA.out.f).at 1
   have hnr := HNr.out
   repeat ((first | (refine chain_take rfl (by rfl) ?_ (fun W hG => ?_) ?_; rotate_left; (go_simp; rfl)) | refine chain_skip rfl (by rfl) ?_); simp only [Act.put, List.setIfInBounds_toArray, List.set_cons_zero, List.set_cons_succ])
   clear q0 q1 q2 q3 q4 q5 q6 q7 q8 q9 r3 rk f0 f1 hnr
   refine chain_only rfl (by rfl) (fun K hK => ?_)
   go_simp
   refine (HPo'.out _).mono ?_
   rintro e w6 ⟨rfl, hg⟩
   refine hK _ _ (Bar.of_grow hg) ?_
   clear hK K
   have HS6 := hid (HS5.out.grow hg)
   have HB6 := hid (HB5.out.grow hg)
   have HK6 := hid (HK5.out.belowAt hg (by have := HS5.out.w.size; exact this))
   clear hg HS5 HB5 HK5
   refine chain_only rfl (by rfl) (fun K hK => ?_)
   go_simp
   refine (HPp'.out _).mono ?_
   rintro e w7 ⟨Ax, cx, rfl, hr, hg⟩
   refine hK _ _ (Bar.of_grow hg) ?_
   clear hK K
   have HS7 := hid (HS6.out.grow hg)
   have HB7 := hid (HB6.out.grow hg)
   have HK7 := hid (HK6.out.belowAt hg (by have := HS6.out.w.size; exact this))
   have HX7 := hid hr
   clear hg hr HS6 HB6 HK6 HPo' HPp'
   repeat ((first | (refine chain_take rfl (by rfl) ?_ (fun W hG => ?_) ?_; rotate_left; (go_simp; rfl)) | refine chain_skip rfl (by rfl) ?_); simp only [Act.put, List.setIfInBounds_toArray, List.set_cons_zero, List.set_cons_succ])
   refine chain_done ?_
   go_wp2_with fail
   refine wp_region_leap (leap_bar gB) [(0, true), (1, true), (2, true), (3, true), (4, true), (8, true), (5, false), (6, false), (7, true), (9, false)] (by kernel_rfl) (by kernel_rfl) (by kernel_rfl) ?_
   have HS8 := hid HS7.out.drew
   have HB8 := hid HB7.out.drew
   have HK8 := hid HK7.out.drew
   have HX8 : Hid (RB w7.drew w7.heap.size Ax (pSize wide) cx pl) := hid HX7.out.drew
   have HX8b : Hid (w7.heap.size = w7.drew.heap.size) := hid rfl
   clear HS7 HB7 HK7 HX7
   generalize w7.heap.size = s7 at HX8 HX8b
   generalize w7.drew = w8 at HS8 HB8 HK8 HX8 HX8b ⊢
   have r0 : ∀ W, Bar gB w8 W → W.cell? ⟨gp, 0, none⟩ = some (.int .u64 (ph : Int)) := fun W hW => (HS8.out.p.bar hW HA.out.p).at 0
   have f0 : ∀ W, Bar gB w8 W → W.cell? ⟨gf, 0, none⟩ = some (.bool wide) := fun W hW => (HS8.out.f.bar hW HA.out.f).at 0
   have f1 : ∀ W, Bar gB w8 W → W.cell? ⟨gf, 1, none⟩ = some (.bool big) := fun W hW => (HS8.out.f.bar hW HA.out.f).at 1
   repeat ((first | (refine chain_take rfl (by rfl) ?_ (fun W hG => ?_) ?_; rotate_left; (go_simp; rfl)) | refine chain_skip rfl (by rfl) ?_); simp only [Act.put, List.setIfInBounds_toArray, List.set_cons_zero, List.set_cons_succ])
   clear r0 f0 f1
   refine chain_only rfl (by rfl) (fun K hK => ?_)
   go_simp
   refine (HPs.out _).mono ?_
   rintro e w9 ⟨rfl, hg⟩
   refine hK _ _ (Bar.of_grow hg) ?_
   clear hK K
   have HS9 := hid (HS8.out.grow hg)
   have HB9 := hid (HB8.out.grow hg)
   have HK9 := hid (HK8.out.belowAt hg (by have := HS8.out.w.size; exact this))
   have HX9 := hid (HX8.out.belowAt hg (by rw [HX8b.out]; exact Nat.le_refl _))
   clear hg HS8 HB8 HK8 HX8 HX8b
   refine chain_only rfl (by rfl) (fun K hK => ?_)
   go_simp
   have hpz : pSize wide ≤ 64 := by cases wide <;> decide
   have hk16 : k ≤ 100 := by have := HN1.out; have := HKl.out; omega
   refine (entry_any ph (k) (pSize wide) w9 (by have := HQ1.out; have := hT; omega) (by omega) (by omega)).mono ?_
   rintro e w9x ⟨rfl, rfl⟩
   clear hpz hk16
   refine hK _ _ ((leap_bar gB).refl _) ?_
   clear hK K
   have HQ2 : Hid (ph + k * pSize wide ≤ T ∧ pl.length = pSize wide ∧ ph + k * pSize wide + pl.length ≤ T) := hid (by have h1 := HX9.out.len; have h2 := HQ1.out; omega)
   have HLkE' := hid (HLkE.out L HLk.out HLn.out)
   clear HLkE HLk HQ1 hq1
   generalize ph + k * pSize wide = q at HQ2 HLkE' ⊢
   have hcut : ∀ W : World, (Instr.slice 29 (.slice (some ⟨gB, 0, none⟩) T T) (some (.int .u64 (q : Int))) none none).run Tryz.prog W = .ok (.slice (some (cutA ⟨gB, 0, none⟩ T q)) (T - q) (T - q)) W := fun W => run_cut_l 29 Tryz.underlying29 (fun W => by kernel_rfl) ⟨gB, 0, none⟩ T T .u64 q HQ2.out.1 W
   repeat ((first | (refine chain_take rfl (by rfl) ?_ (fun W hG => ?_) ?_; rotate_left; (go_simp; rfl)) | refine chain_skip rfl (by rfl) ?_); simp only [Act.put, List.setIfInBounds_toArray, List.set_cons_zero, List.set_cons_succ])
   clear hcut
   have hcp := run_copy_put (P := Tryz.prog) w9 29 29 3 5 gB T q L pl Ax (pSize wide) cx _ 5 Tryz.underlying29 (by kernel_rfl) HS9.out.b HLn.out.symm HX9.out (by have h1 := HQ2.out; have h2 := HLn.out; omega)
   refine chain_only rfl (by rfl) (fun K hK => ?_)
   go_simp
   refine hK _ _ (Bar.set _ _ _) ?_
   clear hK K hcp
   refine chain_done ?_
   have HLn2 : Hid ((put L q pl).length = T) := hid ((put_len (by have h1 := HQ2.out; have h2 := HLn.out; omega)).trans HLn.out)
   have HSa := hid (HS9.out.set HA.out (put L q pl))
   have HBa := hid (HB9.out.other HNs.out ((put L q pl).map byt).toArray)
   have HKa : Hid (RB (w9.setRow gB ((put L q pl).map byt).toArray) w.heap.size Ak nk ck ow) := hid (HK9.out.keep fun p hp => by
    unfold World.cell?
    rw [setRow_other w9 gB p.block _ (by have := HA.out.w; omega)])
   clear HS9 HB9 HK9 HX9 HLn HQ2
   generalize put L q pl = L2 at HLkE' HLn2 HSa HBa HKa ⊢
   generalize w9.setRow gB (L2.map byt).toArray = wa at HSa HBa HKa ⊢
   go_wp2_with fail
   refine wp_region_leap (leap_bar gB) [(0, true), (1, true), (2, true), (3, true), (4, true), (5, true), (6, true), (7, true), (8, true), (9, true), (10, false)] (by kernel_rfl) (by kernel_rfl) (by kernel_rfl) ?_
   have HSb := hid HSa.out.drew
   have HBb := hid HBa.out.drew
   have HKb := hid HKa.out.drew
   clear HSa HBa HKa
   generalize wa.drew = wb at HSb HBb HKb ⊢
   have r3 : ∀ W, Bar gB wb W → W.cell? ⟨gp, 3, none⟩ = some (.slice (some ⟨br, offr, none⟩) n3 c3) := fun W hW => (HSb.out.p.bar hW HA.out.p).at 3
   have rk : ∀ W, Bar gB wb W → W.cell? ⟨br, offr + k, none⟩ = some (.int .u64 (pk : Int)) := fun W hW => HSb.out.cell HA.out hW HBr.out HRow.out
   have qo : ∀ W, Bar gB wb W → W.cell? ⟨gs, 9, none⟩ = some (.slice Ak nk ck) := fun W hW => (HBb.out.bar hW HNs.out).at 9
   have hnr := HNr.out
   have hcut : ∀ W : World, (Instr.slice 29 (.slice (some ⟨gB, 0, none⟩) T T) (some (.int .u64 (pk : Int))) none none).run Tryz.prog W = .ok (.slice (some (cutA ⟨gB, 0, none⟩ T pk)) (T - pk) (T - pk)) W := fun W => run_cut_l 29 Tryz.underlying29 (fun W => by kernel_rfl) ⟨gB, 0, none⟩ T T .u64 pk (by have := HOwn.out; omega) W
   repeat ((first | (refine chain_take rfl (by rfl) ?_ (fun W hG => ?_) ?_; rotate_left; (go_simp; rfl)) | refine chain_skip rfl (by rfl) ?_); simp only [Act.put, List.setIfInBounds_toArray, List.set_cons_zero, List.set_cons_succ])
   clear hcut r3 rk qo hnr
   have hcp := run_copy_put (P := Tryz.prog) wb 29 29 3 5 gB T pk L2 ow Ak nk ck _ 5 Tryz.underlying29 (by kernel_rfl) HSb.out.b HLn2.out.symm HKb.out (by have h1 := HOwn.out; have h2 := HLn2.out; omega)
   refine chain_only rfl (by rfl) (fun K hK => ?_)
   go_simp
   refine hK _ _ (Bar.set _ _ _) ?_
   clear hK K hcp
   refine chain_done ?_
   have HLn3 : Hid ((put L2 pk ow).length = T) := hid ((put_len (by have h1 := HOwn.out; have h2 := HLn2.out; omega)).trans HLn2.out)
   have HLk3 := hid (HLkF.out L2 HLkE'.out HLn2.out)
   have HSc := hid (HSb.out.set HA.out (put L2 pk ow))
   clear HSb HBb HKb HLn2 HLkE' HLkF HOwn HRow
   generalize put L2 pk ow = L3 at HLn3 HLk3 HSc ⊢
   generalize wb.setRow gB (L3.map byt).toArray = wc at HSc ⊢
   go_wp2
   go_roundw
   case rel => exact ⟨k + 1, L3, by omega, by go_num, HSc.out, HLk3.out, HLn3.out⟩
   case measure => simp [intOf]; omega
  ·have HS3 := HS4
   have HLa : Hid (Laid (Stg m m.segs.length m.segs.length 0 0) L ∧ L.length = T) := hid ⟨by have := HLk.out; rw [← HLen1.out]; rwa [show k = n1 by omega] at this, HLn.out⟩
   clear HS4 HLk HLn
   obtain rfl : n1 = k := by omega
   have v9 := HS3.out.m.at 9
   generalize L = L1 at HS3 HLa
   go_wp2_with fail
   clear v9
   go_loopw [78] (fun i wr => ∃ (k : Nat) (L : List UInt8), k ≤ n2 ∧ i = .int .i64 k ∧ WS w wr gm gp gf gB 51 104 23 5 #[.bool wide, .bool big, x2, x3, x4, x5, x6, x7, .slice A1 n1 c1, .slice A2 n2 c2, x10] #[.int .u64 (ph : Int), .int .u64 (sh : Int), .int .u64 (T : Int), .slice A3 n3 c3, .slice A4 n4 c4] #[.bool wide, .bool big] L ∧ Laid (Stg m m.segs.length m.segs.length k k) L ∧ L.length = T) (fun i _ => n2 - (intOf i).toNat)
   case atStart => exact ⟨0, L1, by omega, rfl, HS3.out, HLa.out.1, HLa.out.2⟩
   case round =>
    obtain ⟨k, L, hk, rfl, hws, hla, hlen⟩ := hrel
    have HS4 := hid hws
    have HLk := hid hla
    have HLn := hid hlen
    clear hws hla hlen HS3 HLa
    by_cases hlt : k < n2
    ·have hkl : k < m.secs.length := by rw [← HLen2.out]; exact hlt
     obtain ⟨b, off, hAA, hb⟩ := HZ2.out.pos (by omega)
     obtain ⟨br, offr, hAR, hbr, hcr⟩ := HR2.out.pos (by have := HR2.out.len; simp at this; omega)
     subst hAA
     subst hAR
     obtain ⟨Ak, nk, ck, -, hcell, gk⟩ := HZ2.out.at hkl
     have hse : m.secs[k] = m.se k := by unfold Md.se; rw [List.getD_eq_getElem?_getD, List.getElem?_eq_getElem hkl]; rfl
     rw [hse] at hcell gk
     have hcell' : ∀ i v, (seC (m.se k) (.slice Ak nk ck))[i]? = some v → wr.cell? ⟨b, off + k * 13 + i, none⟩ = some v := fun i v hv => (Below.cell HS4.out.w hb).trans (hcell i v hv)
     have hcrk := hcr k (by simpa using hkl)
     simp only [List.getElem_map, List.getElem_range] at hcrk
     have HRow := hid hcrk
     have HBr := hid hbr
     have HKl := hid hkl
     have HNr : Hid (k < n4) := hid (by have := HR2.out.len; simp at this; omega)
     have HGk : Hid (RB wr w.heap.size Ak nk ck (m.se k).pl.own) := hid (gk.belowAt HS4.out.w (Nat.le_refl _))
     have HPo' : Hid (∀ W, Calls Tryz.prog 81 #[.agg (seC (m.se k) (.slice Ak nk ck)), .int .u64 (m.P3 k : Nat)] W fun e w' => e = .returned (m.sc k).V ∧ Grow W w') := hid (fun W => HSo.out k (.slice Ak nk ck) W)
     have HPp' := hid (fun W => HSp.out k hlt W)
     have HAt := hid (Good.sec_at HGood.out HKl.out)
     have HZk := hid (Good.z4 HGood.out HKl.out)
     have hq1 : sh + (k + 1) * sSize wide + sSize wide ≤ T := by
      have h1 := HZk.out.2
      have h2 := HT.out
      have h3 := HGood.out.planned.order
      rw [Sc.lenL, ← HWi.out, HSh.out] at h1
      omega
     have HQ1 := hid hq1
     have HOwn : Hid (m.P3 k + (m.se k).pl.own.length ≤ T) := hid (by have h1 := HAt.out; have h2 := HT.out; omega)
     clear hcr hcrk hbr hcell gk hkl hse
     unfold seC at hcell' HPo'
     have HLkE : Hid (∀ L, Laid (Stg m m.segs.length m.segs.length k k) L → L.length = T → Laid (Stg m m.segs.length m.segs.length k (k + 1)) (put L (sh + (k + 1) * sSize wide) ((m.sc k).L wide big))) := hid fun L h1 h2 => by
      have h3 := HZk.out.2
      have h4 := HT.out
      have h5 := HGood.out.planned.order
      rw [← HSh.out, HWi.out, HBi.out]
      exact HGood.out.putD h1 (Nat.le_refl _) (Nat.le_refl _) (by have := HKl.out; omega) HKl.out (by omega)
     have HLkF : Hid (∀ L, Laid (Stg m m.segs.length m.segs.length k (k + 1)) L → L.length = T → Laid (Stg m m.segs.length m.segs.length (k + 1) (k + 1)) (put L (m.P3 k) (m.se k).pl.own)) := hid fun L h1 h2 => by
      have h3 := HOwn.out
      exact HGood.out.putC h1 (Nat.le_refl _) (Nat.le_refl _) HKl.out (by have := HKl.out; omega) (by omega)
     generalize (m.sc k).V = pv at HPo' HPp'
     generalize (m.sc k).L wide big = pl at HPp' HLkE
     generalize (m.se k).pl.own = ow at HGk HOwn HLkF
     generalize m.P3 k = pk at HPo' HRow HOwn HLkF
     generalize m.se k = s at hcell' HPo'
     have t0 : wr.cell? ⟨b, off + k * 13, none⟩ = _ := hcell' 0 _ rfl
     have t1 := hcell' 1 _ rfl
     have t2 := hcell' 2 _ rfl
     have t3 := hcell' 3 _ rfl
     have t4 := hcell' 4 _ rfl
     have t5 := hcell' 5 _ rfl
     have t6 := hcell' 6 _ rfl
     have t7 := hcell' 7 _ rfl
     have t8 := hcell' 8 _ rfl
     have t9 := hcell' 9 _ rfl
     have t10 := hcell' 10 _ rfl
     have t11 := hcell' 11 _ rfl
     have t12 := hcell' 12 _ rfl
     clear hcell'
     have hne : ¬ (gf = wr.heap.size) := by have := HS4.out.f.lt; omega
     have hne2 : ¬ (gp = wr.heap.size) := by have := HS4.out.p.lt; omega
     go_wp2_with fail
     refine wp_region_leap (leap_bar gB) [(0, true), (1, true), (2, true), (3, true), (4, true), (5, true), (7, true), (6, false), (8, false), (9, true), (10, true), (11, true), (12, true), (13, true)] (by kernel_rfl) (by kernel_rfl) (by kernel_rfl) ?_
     generalize hW : World.alloc _ _ = W5
     obtain ⟨b5, hg5⟩ := blk1 hW
     clear hW t0 t1 t2 t3 t4 t5 t6 t7 t8 t9 t10 t11 t12 hne hne2
     have HNs : Hid (wr.heap.size ≠ gB) := hid (by have := HS4.out.b.lt; omega)
     generalize wr.heap.size = gs at b5 HNs ⊢
     have HS5 := hid (HS4.out.grow hg5).drew
     have HB5 := hid b5.drew
     have HK5 := hid ((HGk.out.belowAt hg5 (by have := HS4.out.w.size; exact this)).drew)
     clear b5 hg5 HS4 HGk
     generalize W5.drew = w5 at HS5 HB5 HK5 ⊢
     have q0 : ∀ W, Bar gB w5 W → W.cell? ⟨gs, 0, none⟩ = some (.int .u32 (s.name : Nat)) := fun W hW => (HB5.out.bar hW HNs.out).at 0
     have q1 : ∀ W, Bar gB w5 W → W.cell? ⟨gs, 1, none⟩ = some (.int .u32 (s.typ : Nat)) := fun W hW => (HB5.out.bar hW HNs.out).at 1
     have q2 : ∀ W, Bar gB w5 W → W.cell? ⟨gs, 2, none⟩ = some (.int .u64 (s.flags : Nat)) := fun W hW => (HB5.out.bar hW HNs.out).at 2
     have q3 : ∀ W, Bar gB w5 W → W.cell? ⟨gs, 3, none⟩ = some (.int .u64 (s.addr : Nat)) := fun W hW => (HB5.out.bar hW HNs.out).at 3
     have q4 : ∀ W, Bar gB w5 W → W.cell? ⟨gs, 4, none⟩ = some (.int .u64 (s.size : Nat)) := fun W hW => (HB5.out.bar hW HNs.out).at 4
     have q5 : ∀ W, Bar gB w5 W → W.cell? ⟨gs, 5, none⟩ = some (.int .u32 (s.link : Nat)) := fun W hW => (HB5.out.bar hW HNs.out).at 5
     have q6 : ∀ W, Bar gB w5 W → W.cell? ⟨gs, 6, none⟩ = some (.int .u32 (s.info : Nat)) := fun W hW => (HB5.out.bar hW HNs.out).at 6
     have q7 : ∀ W, Bar gB w5 W → W.cell? ⟨gs, 7, none⟩ = some (.int .u64 (s.align : Nat)) := fun W hW => (HB5.out.bar hW HNs.out).at 7
     have q8 : ∀ W, Bar gB w5 W → W.cell? ⟨gs, 8, none⟩ = some (.int .u64 (s.entsize : Nat)) := fun W hW => (HB5.out.bar hW HNs.out).at 8
     have q9 : ∀ W, Bar gB w5 W → W.cell? ⟨gs, 9, none⟩ = some (.int .i64 s.pl.inn) := fun W hW => (HB5.out.bar hW HNs.out).at 9
     have q10 : ∀ W, Bar gB w5 W → W.cell? ⟨gs, 10, none⟩ = some (.int .u64 (s.pl.off : Nat)) := fun W hW => (HB5.out.bar hW HNs.out).at 10
     have q11 : ∀ W, Bar gB w5 W → W.cell? ⟨gs, 11, none⟩ = some (.int .u64 (s.pl.size : Nat)) := fun W hW => (HB5.out.bar hW HNs.out).at 11
     have q12 : ∀ W, Bar gB w5 W → W.cell? ⟨gs, 12, none⟩ = some (.slice Ak nk ck) := fun W hW => (HB5.out.bar hW HNs.out).at 12
     have r3 : ∀ W, Bar gB w5 W → W.cell? ⟨gp, 4, none⟩ = some (.slice (some ⟨br, offr, none⟩) n4 c4) := fun W hW => (HS5.out.p.bar hW HA.out.p).at 4
     have rk : ∀ W, Bar gB w5 W → W.cell? ⟨br, offr + k, none⟩ = some (.int .u64 (pk : Int)) := fun W hW => HS5.out.cell HA.out hW HBr.out HRow.out
     have f0 : ∀ W, Bar gB w5 W → W.cell? ⟨gf, 0, none⟩ = some (.bool wide) := fun W hW => (HS5.out.f.bar hW HA.out.f).at 0
     have f1 : ∀ W, Bar gB w5 W → W.cell? ⟨gf, 1, none⟩ = some (.bool big) := fun W hW => (HS5.out.f.bar hW HA.out.f).at 1
     have hnr := HNr.out
     repeat ((first | (refine chain_take rfl (by rfl) ?_ (fun W hG => ?_) ?_; rotate_left; (go_simp; rfl)) | refine chain_skip rfl (by rfl) ?_); simp only [Act.put, List.setIfInBounds_toArray, List.set_cons_zero, List.set_cons_succ])
     clear q0 q1 q2 q3 q4 q5 q6 q7 q8 q9 q10 q11 q12 r3 rk f0 f1 hnr
     refine chain_only rfl (by rfl) (fun K hK => ?_)
     go_simp
     refine (HPo'.out _).mono ?_
     rintro e w6 ⟨rfl, hg⟩
     refine hK _ _ (Bar.of_grow hg) ?_
     clear hK K
     have HS6 := hid (HS5.out.grow hg)
     have HB6 := hid (HB5.out.grow hg)
     have HK6 := hid (HK5.out.belowAt hg (by have := HS5.out.w.size; exact this))
     clear hg HS5 HB5 HK5
     refine chain_only rfl (by rfl) (fun K hK => ?_)
     go_simp
     refine (HPp'.out _).mono ?_
     rintro e w7 ⟨Ax, cx, rfl, hr, hg⟩
     refine hK _ _ (Bar.of_grow hg) ?_
     clear hK K
     have HS7 := hid (HS6.out.grow hg)
     have HB7 := hid (HB6.out.grow hg)
     have HK7 := hid (HK6.out.belowAt hg (by have := HS6.out.w.size; exact this))
     have HX7 := hid hr
     clear hg hr HS6 HB6 HK6 HPo' HPp'
     repeat ((first | (refine chain_take rfl (by rfl) ?_ (fun W hG => ?_) ?_; rotate_left; (go_simp; rfl)) | refine chain_skip rfl (by rfl) ?_); simp only [Act.put, List.setIfInBounds_toArray, List.set_cons_zero, List.set_cons_succ])
     refine chain_done ?_
     go_wp2_with fail
     refine wp_region_leap (leap_bar gB) [(0, true), (1, true), (2, true), (3, true), (4, true), (5, true), (9, true), (6, false), (7, false), (8, true), (10, false)] (by kernel_rfl) (by kernel_rfl) (by kernel_rfl) ?_
     have HS8 := hid HS7.out.drew
     have HB8 := hid HB7.out.drew
     have HK8 := hid HK7.out.drew
     have HX8 : Hid (RB w7.drew w7.heap.size Ax (sSize wide) cx pl) := hid HX7.out.drew
     have HX8b : Hid (w7.heap.size = w7.drew.heap.size) := hid rfl
     clear HS7 HB7 HK7 HX7
     generalize w7.heap.size = s7 at HX8 HX8b
     generalize w7.drew = w8 at HS8 HB8 HK8 HX8 HX8b ⊢
     have zk : IntKind.i64.wrap ((k : Int) + 1) = (k : Int) + 1 := by have := HN2.out; have := HKl.out; rw [IntKind.wrap_i64]; omega
     have r0 : ∀ W, Bar gB w8 W → W.cell? ⟨gp, 1, none⟩ = some (.int .u64 (sh : Int)) := fun W hW => (HS8.out.p.bar hW HA.out.p).at 1
     have f0 : ∀ W, Bar gB w8 W → W.cell? ⟨gf, 0, none⟩ = some (.bool wide) := fun W hW => (HS8.out.f.bar hW HA.out.f).at 0
     have f1 : ∀ W, Bar gB w8 W → W.cell? ⟨gf, 1, none⟩ = some (.bool big) := fun W hW => (HS8.out.f.bar hW HA.out.f).at 1
     repeat ((first | (refine chain_take rfl (by rfl) ?_ (fun W hG => ?_) ?_; rotate_left; (go_simp; rfl)) | refine chain_skip rfl (by rfl) ?_); simp only [Act.put, List.setIfInBounds_toArray, List.set_cons_zero, List.set_cons_succ])
     clear r0 f0 f1 zk
     refine chain_only rfl (by rfl) (fun K hK => ?_)
     go_simp
     refine (HSs.out _).mono ?_
     rintro e w9 ⟨rfl, hg⟩
     refine hK _ _ (Bar.of_grow hg) ?_
     clear hK K
     have HS9 := hid (HS8.out.grow hg)
     have HB9 := hid (HB8.out.grow hg)
     have HK9 := hid (HK8.out.belowAt hg (by have := HS8.out.w.size; exact this))
     have HX9 := hid (HX8.out.belowAt hg (by rw [HX8b.out]; exact Nat.le_refl _))
     clear hg HS8 HB8 HK8 HX8 HX8b
     refine chain_only rfl (by rfl) (fun K hK => ?_)
     go_simp
     have hpz : sSize wide ≤ 64 := by cases wide <;> decide
     have hk16 : (k + 1) ≤ 100 := by have := HN2.out; have := HKl.out; omega
     refine (entry1_any sh k (sSize wide) w9 (by have := HQ1.out; have := hT; omega) (by omega) (by omega)).mono ?_
     rintro e w9x ⟨rfl, rfl⟩
     clear hpz hk16
     refine hK _ _ ((leap_bar gB).refl _) ?_
     clear hK K
     have HQ2 : Hid (sh + (k + 1) * sSize wide ≤ T ∧ pl.length = sSize wide ∧ sh + (k + 1) * sSize wide + pl.length ≤ T) := hid (by have h1 := HX9.out.len; have h2 := HQ1.out; omega)
     have HLkE' := hid (HLkE.out L HLk.out HLn.out)
     clear HLkE HLk HQ1 hq1
     generalize sh + (k + 1) * sSize wide = q at HQ2 HLkE' ⊢
     have hcut : ∀ W : World, (Instr.slice 29 (.slice (some ⟨gB, 0, none⟩) T T) (some (.int .u64 (q : Int))) none none).run Tryz.prog W = .ok (.slice (some (cutA ⟨gB, 0, none⟩ T q)) (T - q) (T - q)) W := fun W => run_cut_l 29 Tryz.underlying29 (fun W => by kernel_rfl) ⟨gB, 0, none⟩ T T .u64 q HQ2.out.1 W
     repeat ((first | (refine chain_take rfl (by rfl) ?_ (fun W hG => ?_) ?_; rotate_left; (go_simp; rfl)) | refine chain_skip rfl (by rfl) ?_); simp only [Act.put, List.setIfInBounds_toArray, List.set_cons_zero, List.set_cons_succ])
     clear hcut
     have hcp := run_copy_put (P := Tryz.prog) w9 29 29 3 5 gB T q L pl Ax (sSize wide) cx _ 5 Tryz.underlying29 (by kernel_rfl) HS9.out.b HLn.out.symm HX9.out (by have h1 := HQ2.out; have h2 := HLn.out; omega)
     refine chain_only rfl (by rfl) (fun K hK => ?_)
     go_simp
     refine hK _ _ (Bar.set _ _ _) ?_
     clear hK K hcp
     refine chain_done ?_
     have HLn2 : Hid ((put L q pl).length = T) := hid ((put_len (by have h1 := HQ2.out; have h2 := HLn.out; omega)).trans HLn.out)
     have HSa := hid (HS9.out.set HA.out (put L q pl))
     have HBa := hid (HB9.out.other HNs.out ((put L q pl).map byt).toArray)
     have HKa : Hid (RB (w9.setRow gB ((put L q pl).map byt).toArray) w.heap.size Ak nk ck ow) := hid (HK9.out.keep fun p hp => by
      unfold World.cell?
      rw [setRow_other w9 gB p.block _ (by have := HA.out.w; omega)])
     clear HS9 HB9 HK9 HX9 HLn HQ2
     generalize put L q pl = L2 at HLkE' HLn2 HSa HBa HKa ⊢
     generalize w9.setRow gB (L2.map byt).toArray = wa at HSa HBa HKa ⊢
     go_wp2_with fail
     refine wp_region_leap (leap_bar gB) [(0, true), (1, true), (2, true), (3, true), (4, true), (5, true), (6, true), (7, true), (8, true), (9, true), (10, false)] (by kernel_rfl) (by kernel_rfl) (by kernel_rfl) ?_
     have HSb := hid HSa.out.drew
     have HBb := hid HBa.out.drew
     have HKb := hid HKa.out.drew
     clear HSa HBa HKa
     generalize wa.drew = wb at HSb HBb HKb ⊢
     have r3 : ∀ W, Bar gB wb W → W.cell? ⟨gp, 4, none⟩ = some (.slice (some ⟨br, offr, none⟩) n4 c4) := fun W hW => (HSb.out.p.bar hW HA.out.p).at 4
     have rk : ∀ W, Bar gB wb W → W.cell? ⟨br, offr + k, none⟩ = some (.int .u64 (pk : Int)) := fun W hW => HSb.out.cell HA.out hW HBr.out HRow.out
     have qo : ∀ W, Bar gB wb W → W.cell? ⟨gs, 12, none⟩ = some (.slice Ak nk ck) := fun W hW => (HBb.out.bar hW HNs.out).at 12
     have hnr := HNr.out
     have hcut : ∀ W : World, (Instr.slice 29 (.slice (some ⟨gB, 0, none⟩) T T) (some (.int .u64 (pk : Int))) none none).run Tryz.prog W = .ok (.slice (some (cutA ⟨gB, 0, none⟩ T pk)) (T - pk) (T - pk)) W := fun W => run_cut_l 29 Tryz.underlying29 (fun W => by kernel_rfl) ⟨gB, 0, none⟩ T T .u64 pk (by have := HOwn.out; omega) W
     repeat ((first | (refine chain_take rfl (by rfl) ?_ (fun W hG => ?_) ?_; rotate_left; (go_simp; rfl)) | refine chain_skip rfl (by rfl) ?_); simp only [Act.put, List.setIfInBounds_toArray, List.set_cons_zero, List.set_cons_succ])
     clear hcut r3 rk qo hnr
     have hcp := run_copy_put (P := Tryz.prog) wb 29 29 3 5 gB T pk L2 ow Ak nk ck _ 5 Tryz.underlying29 (by kernel_rfl) HSb.out.b HLn2.out.symm HKb.out (by have h1 := HOwn.out; have h2 := HLn2.out; omega)
     refine chain_only rfl (by rfl) (fun K hK => ?_)
     go_simp
     refine hK _ _ (Bar.set _ _ _) ?_
     clear hK K hcp
     refine chain_done ?_
     have HLn3 : Hid ((put L2 pk ow).length = T) := hid ((put_len (by have h1 := HOwn.out; have h2 := HLn2.out; omega)).trans HLn2.out)
     have HLk3 := hid (HLkF.out L2 HLkE'.out HLn2.out)
     have HSc := hid (HSb.out.set HA.out (put L2 pk ow))
     clear HSb HBb HKb HLn2 HLkE' HLkF HOwn HRow
     generalize put L2 pk ow = L3 at HLn3 HLk3 HSc ⊢
     generalize wb.setRow gB (L3.map byt).toArray = wc at HSc ⊢
     go_wp2
     go_roundw
     case rel => exact ⟨k + 1, L3, by omega, by go_num, HSc.out, HLk3.out, HLn3.out⟩
     case measure => simp [intOf]; omega
    ·have HF : Hid (FileIs m L) := hid ⟨by have := HLk.out; rwa [show k = m.secs.length by rw [← HLen2.out]; omega] at this, HLn.out.trans HT.out.symm⟩
     obtain rfl : n2 = k := by omega
     go_wp2
     go_ret
     unfold WriteR
     exact ⟨gB, L, by rw [HLn.out]; rfl, HF.out, HS4.out.b, HGe.out, HS4.out.w⟩
end Go.Proofs.YtfbimboemahhhaaGreatDoor
