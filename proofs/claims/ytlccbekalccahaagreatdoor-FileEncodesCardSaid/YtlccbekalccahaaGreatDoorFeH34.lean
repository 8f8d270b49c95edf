/-
  Several texts in one: The contracts of file; The contracts of (tables); The contracts of (tables); Segments and sections of the call's own, each with its bytes, the call's own too.
-/
import Derived.Test.YtlccbekalccahaaGreatDoorFeH33
import Derived.Test.YtlccbekalccahaaGreatDoorFeH24

namespace Go.Proofs.YtlccbekalccahaaGreatDoor
open Go.RowKit
set_option maxRecDepth 100000
set_option linter.unusedVariables false

/-- A place, its bytes the call's own. -/
def PlaceR (p : Pl) (w : World) (e : Ending) (w' : World) : Prop := ∃ A n c, e = .returned (.agg (plC p (.slice A n c))) ∧ OB w' w.heap.size 5 A n c p.own ∧ Grow w w'

theorem OB.from_ {w : World} {base : Nat} {e : TypeId} {A : Option Addr} {n c : Nat} {l : List UInt8} (h : OB w base e A n c l) {g : Nat} (hg : own A = some g) : base ≤ g ∧ g < w.heap.size := by
  rcases h.2 with ⟨hv, _⟩ | ⟨g', cap, cur, hv, hb, hh, _⟩
  · injection hv with e1 _ _
    subst e1
    cases hg
  · injection hv with e1 _ _
    subst e1
    have e3 : g' = g := Option.some.inj hg
    subst e3
    refine ⟨hb, ?_⟩
    rcases Nat.lt_or_ge g' w.heap.size with h1 | h1
    · exact h1
    · rw [Array.getElem?_eq_none h1] at hh; cases hh
theorem OB.beside {w : World} {base : Nat} {e : TypeId} {A : Option Addr} {n c g : Nat} {l : List UInt8} (h : OB w base e A n c l) (hne : own A ≠ some g) (cs' : Array Value) : OB (w.setRow g cs') base e A n c l := by
  refine ⟨h.1, ?_⟩
  rcases h.2 with h0 | ⟨g', cap, cur, hv, hb, hh, r⟩
  · exact .inl h0
  · refine .inr ⟨g', cap, cur, hv, hb, ?_, r⟩
    have : g' ≠ g := fun he => hne (by injection hv with e1 _ _; subst e1; subst he; rfl)
    rw [setRow_other w g g' cs' (by exact this)]
    exact hh
set_option maxHeartbeats 1000000 in
theorem segOf_any (p : Pg) (q : Pl) (A : Option Addr) (n c : Nat) (w : World) :
    Calls Tryz.prog 72 #[p.V, .agg (plC q (.slice A n c))] w fun e w' => e = .returned (.agg (sgC ⟨p.ty, p.fl, p.va, p.pa, p.ms, p.al, q⟩ (.slice A n c))) ∧ Grow w w' := by
  obtain ⟨ty, fl, off, va, pa, fs, ms, al⟩ := p
  obtain ⟨i, o, z, b⟩ := q
  unfold Pg.V Pg.C plC sgC
  simp only []
  go_enter Tryz.func72, Tryz.ntmps72
  go_wp2_with (refine wpList_store_row rfl 56 (.tmp 4) (.tmp 18) rfl (w.heap.size + 1 + 1) #[.int .u32 (ty : Int), .int .u32 (fl : Int), .int .u64 (va : Int), .int .u64 (pa : Int), .int .u64 (ms : Int), .int .u64 (al : Int), .int .i64 i, .int .u64 (o : Int), .int .u64 (z : Int), .slice A n c] rfl rfl _ _ (blk3 rfl).2.2.1 (by kernel_rfl) rfl (by simp [Value.oneCell']) ?_)
  refine bodyPost_ret (results_cell_row rfl _ _ (w.heap.size + 1 + 1) _ _ (0, 0) _ rfl ((blk3 rfl).2.2.1.set _) Tryz.underlying56 rfl (by kernel_rfl)) rfl ?_
  exact ⟨rfl, Grow.set (blk3 rfl).2.2.2 (by omega) _⟩
set_option maxHeartbeats 1000000 in
theorem secOf_any (p : Sc) (q : Pl) (A : Option Addr) (n c : Nat) (w : World) :
    Calls Tryz.prog 74 #[p.V, .agg (plC q (.slice A n c))] w fun e w' => e = .returned (.agg (seC ⟨p.na, p.ty, p.fl, p.ad, p.sz, p.li, p.inf, p.al, p.en, q⟩ (.slice A n c))) ∧ Grow w w' := by
  obtain ⟨na, ty, fl, ad, off, sz, li, inf, al, en⟩ := p
  obtain ⟨i, o, z, b⟩ := q
  unfold Sc.V Sc.C plC seC
  simp only []
  go_enter Tryz.func74, Tryz.ntmps74
  go_wp2_with (refine wpList_store_row rfl 58 (.tmp 4) (.tmp 24) rfl (w.heap.size + 1 + 1) #[.int .u32 (na : Int), .int .u32 (ty : Int), .int .u64 (fl : Int), .int .u64 (ad : Int), .int .u64 (sz : Int), .int .u32 (li : Int), .int .u32 (inf : Int), .int .u64 (al : Int), .int .u64 (en : Int), .int .i64 i, .int .u64 (o : Int), .int .u64 (z : Int), .slice A n c] rfl rfl _ _ (blk3 rfl).2.2.1 (by kernel_rfl) rfl (by simp [Value.oneCell']) ?_)
  refine bodyPost_ret (results_cell_row rfl _ _ (w.heap.size + 1 + 1) _ _ (0, 0) _ rfl ((blk3 rfl).2.2.1.set _) Tryz.underlying58 rfl (by kernel_rfl)) rfl ?_
  exact ⟨rfl, Grow.set (blk3 rfl).2.2.2 (by omega) _⟩

set_option maxHeartbeats 1000000 in
theorem ownPlace_any (l : List UInt8) (A : Option Addr) (n c : Nat) (T1 T2 T3 : Value) (off size : Nat) (w : World) (hr : RB w w.heap.size A n c l) (hin : inB n off size = true) (hlen : n ≤ 65536) :
    Calls Tryz.prog 116 #[.agg #[.slice A n c, T1, T2, T3], .int .u64 (off : Int), .int .u64 (size : Int)] w (PlaceR (ownPl l off size) w) := by
  by_cases h0 : size = 0
  · have E : Hid (ownPl l off size = ⟨-1, 0, 0, []⟩) := Lib.hid (by unfold ownPl; rw [if_pos h0])
    have d : ((size : Int) == 0) = true := by simp [h0]
    rw [E.out]
    clear h0 hr hin E
    unfold PlaceR plC
    go_enter Tryz.func116, Tryz.ntmps116
    go_wp2
    refine bodyPost_ret (results_cell_row rfl _ _ (w.heap.size + 1) _ _ (0, 0) _ rfl (blk2 rfl).2.1 Tryz.underlying54 rfl (by kernel_rfl)) rfl ?_
    exact ⟨none, 0, 0, rfl, OB.nil, (blk2 rfl).2.2⟩
  · have hle := inB_le hin h0
    have E : Hid (ownPl l off size = ⟨-1, 0, size, (l.drop off).take size⟩) := Lib.hid (by unfold ownPl; rw [if_neg h0])
    have d : ((size : Int) == 0) = false := by simp [h0]
    rw [E.out]
    obtain ⟨b, o, rfl, hb, _⟩ := hr.pos (by omega)
    have hc := hr.cap
    have hcut : ∀ W : World, (Instr.slice 35 (.slice (some ⟨b, o, none⟩) n c) (some (.int .u64 (off : Int))) (some (.int .u64 ((off : Int) + (size : Int)))) none).run Tryz.prog W = .ok (.slice (some (cutA ⟨b, o, none⟩ c off)) size (c - off)) W := fun W => by
      have := run_cut_lh (P := Tryz.prog) 35 Tryz.underlying35 (fun W => by kernel_rfl) ⟨b, o, none⟩ n c .u64 .u64 off (off + size) (by omega) (by omega) W
      rw [show off + size - off = size by omega] at this
      rw [Int.natCast_add] at this
      exact this
    have HC := Lib.hid (fun W (hg : Grow w W) => clone_any (some (cutA ⟨b, o, none⟩ c off)) size (c - off) ((l.drop off).take size) w.heap.size W ((hr.cut hle).belowAt hg (Nat.le_refl _)) hg.size (by omega))
    have z1 : IntKind.u64.wrap ((off : Int) + (size : Int)) = (off : Int) + (size : Int) := by rw [IntKind.wrap_u64]; omega
    have HL : Hid (((l.drop off).take size).length = size) := Lib.hid (by rw [List.length_take, List.length_drop]; have := hr.len; omega)
    generalize (l.drop off).take size = bs at HC HL ⊢
    generalize cutA ⟨b, o, none⟩ c off = a at hcut HC
    clear h0 hin hlen hle hr E hc hb
    unfold PlaceR plC
    unfold NewB at HC
    rw [HL.out] at HC
    go_enter Tryz.func116, Tryz.ntmps116
    go_wp2_with fail
    clear hcut z1 d
    generalize hW : World.alloc _ _ = W0
    obtain ⟨b1, b2, hg⟩ := blk2 hW
    clear hW b1
    refine (HC.out _ hg).mono ?_
    rintro e w1 ⟨A2, c2, rfl, ho, hg2⟩
    have HO : Hid (OB w1 w.heap.size 5 A2 size c2 bs) := Lib.hid (ho.mono hg.size)
    have HB := Lib.hid (b2.grow hg2)
    have HG : Hid (Grow w w1) := Lib.hid (hg.trans hg2)
    have HS : Hid (own A2 ≠ some (w.heap.size + 1)) := Lib.hid fun e => by
      have h1 := b2.lt
      have h2 := (ho.from_ e).1
      omega
    clear ho b2 hg hg2
    have HGe : Hid (w.heap.size ≤ w.heap.size + 1) := Lib.hid (by omega)
    generalize w.heap.size + 1 = g at HB HS HGe ⊢
    go_wp2_with (refine wpList_store_row rfl 54 (.tmp 6) (.tmp 19) rfl g #[.int .i64 (-1), .int .u64 0, .int .u64 (size : Int), .slice A2 size c2] rfl rfl _ _ HB.out (by kernel_rfl) rfl (by simp [Value.oneCell']) ?_)
    refine bodyPost_ret (results_cell_row rfl _ _ g _ _ (0, 0) _ rfl (HB.out.set _) Tryz.underlying54 rfl (by kernel_rfl)) rfl ?_
    exact ⟨A2, size, c2, rfl, HO.out.beside HS.out _, Grow.set HG.out HGe.out _⟩
end Go.Proofs.YtlccbekalccahaaGreatDoor

namespace Go.Proofs.YtlccbekalccahaaGreatDoor
open Go.RowKit
set_option maxRecDepth 100000
set_option linter.unusedVariables false

/-- The first segment that is loaded, and has the bytes: of k ones from i on. -/
def fq (l : List UInt8) (off n i k : Nat) : Option Nat := if n = 0 then none else fstP l off n i k
theorem fq_step (l : List UInt8) (off n i k : Nat) : fq l off n i (k + 1) = if (decide (0 < n) && pHas l off n i) = true then some i else fq l off n (i + 1) k := by
  unfold fq
  by_cases h : n = 0
  · rw [if_pos h, if_neg (by simp [h]), if_pos h]
  · rw [if_neg h, fstP, if_neg h, show decide (0 < n) = true from decide_eq_true (by omega), Bool.true_and]
theorem fq_none {l : List UInt8} {off n : Nat} (h : fq l off n 0 (nP l) = none) : findPl l off n = ownPl l off n := by
  unfold fq at h
  unfold findPl
  by_cases h0 : n = 0
  · rw [if_pos h0]
  · rw [if_neg h0] at h ⊢
    rw [h]
theorem fq_some {l : List UInt8} {off n i : Nat} (h : fq l off n 0 (nP l) = some i) : findPl l off n = ⟨(i : Int), off - (pgs l i).off, n, []⟩ := by
  unfold fq at h
  unfold findPl
  by_cases h0 : n = 0
  · rw [if_pos h0] at h
    cases h
  · rw [if_neg h0] at h ⊢
    rw [h]
theorem pgR_at (l : List UInt8) (P k : Nat) (h : k < P) (h' : k < (pgR l P).length) : (pgR l P)[k] = (pgs l k).C := by simp [pgR]
theorem scR_at (l : List UInt8) (P k : Nat) (h : k < P) (h' : k < (scR l P).length) : (scR l P)[k] = (scs l (k + 1)).C := by simp [scR]

set_option maxHeartbeats 4000000 in
theorem find_any (l : List UInt8) (A : Option Addr) (n c : Nat) (A1 : Option Addr) (c1 : Nat) (T2 T3 : Value) (off size : Nat) (w : World) (hr : RB w w.heap.size A n c l) (hz : ZS w w.heap.size 8 A1 (nP l) c1 (pgR l (nP l)))
    (hin : inB n off size = true) (hlen : n ≤ 65536) (hP : nP l ≤ 16) (hoff : off < 18446744073709551616) (hsz : size < 18446744073709551616) :
    Calls Tryz.prog 117 #[.agg #[.slice A n c, .slice A1 (nP l) c1, T2, T3], .int .u64 (off : Int), .int .u64 (size : Int)] w (PlaceR (findPl l off size) w) := by
  have HO := Lib.hid (fun W (hg : Grow w W) => ownPlace_any l A n c (.slice A1 (nP l) c1) T2 T3 off size W (hr.grow hg) hin hlen)
  have HN : Hid (fq l off size 0 (nP l) = none → findPl l off size = ownPl l off size) := Lib.hid fq_none
  have HSo : Hid (∀ i, fq l off size 0 (nP l) = some i → findPl l off size = ⟨(i : Int), off - (pgs l i).off, size, []⟩) := Lib.hid fun i => fq_some
  have HSt := Lib.hid (fun i k => fq_step l off size i k)
  have HH : Hid (∀ k, pHas l off size k = (decide ((pgs l k).ty = 1) && (decide ((pgs l k).off ≤ off) && decide (off - (pgs l k).off + size ≤ (pgs l k).fs)))) := Lib.hid fun k => rfl
  have HK : Hid (∀ k, (pgs l k).Ok) := Lib.hid fun k => pgOf_ok _ _ _ _
  have HAt := Lib.hid (fun k h h' => pgR_at l (nP l) k h h')
  have HLn : Hid ((pgR l (nP l)).length = nP l) := Lib.hid (by simp [pgR])
  have HZ := Lib.hid hz
  have hzc := hz.cap
  have hzm := hz.max
  unfold maxLen at hzm
  have HN0 : Hid (∀ i, fq l off size i 0 = none) := Lib.hid fun i => by unfold fq; split <;> rfl
  unfold PlaceR at HO ⊢
  clear hr hz hin hlen
  generalize nP l = P at *
  generalize findPl l off size = F at *
  generalize ownPl l off size = O at *
  generalize fq l off size = f at *
  generalize pHas l off size = has at *
  generalize pgR l P = R at *
  generalize pgs l = pg at *
  go_enter Tryz.func117, Tryz.ntmps117
  go_wp2_with fail
  generalize hW : World.alloc _ _ = W0
  obtain ⟨b0, b1, hg⟩ := blk2 hW
  have HT := Lib.hid b0
  have HX := Lib.hid b1
  have HG := Lib.hid hg
  have HG1 : Hid (w.heap.size ≤ w.heap.size + 1) := Lib.hid (by omega)
  clear hW b0 b1 hg
  generalize w.heap.size + 1 = g1 at HX HG1 ⊢
  obtain ⟨g0, hg0⟩ : ∃ g, g = w.heap.size := ⟨_, rfl⟩
  rw [← hg0] at HT ⊢
  clear hg0
  go_loopw [12] (fun i wr => ∃ k : Nat, k ≤ P ∧ i = .int .i64 k ∧ Blk wr g0 92 #[.slice A n c, .slice A1 P c1, T2, T3] ∧ Blk wr g1 54 #[.int .i64 0, .int .u64 0, .int .u64 0, .slice none 0 0] ∧ Grow w wr ∧ Hid (f 0 P = f k (P - k))) (fun i _ => P - (intOf i).toNat)
  case atStart => exact ⟨0, by omega, rfl, HT.out, HX.out, HG.out, Lib.hid rfl⟩
  case round =>
    obtain ⟨k, hk, rfl, ht, hx, hg, HF⟩ := hrel
    have HT1 := Lib.hid ht
    have HX1 := Lib.hid hx
    have HG2 := Lib.hid hg
    clear ht hx hg HT HX HG
    by_cases hlt : k < P
    · obtain ⟨b, o, hAA, hb, hcell⟩ := HZ.out.pos (by omega)
      subst hAA
      have hkR : k < R.length := by rw [HLn.out]; exact hlt
      have hcell' : ∀ i v, (pg k).C[i]? = some v → wr.cell? ⟨b, o + k * 8 + i, none⟩ = some v := fun i v hv => (Below.cell HG2.out hb).trans (hcell k hkR i v (by rw [HAt.out k hlt hkR]; exact hv))
      have hok := HK.out k
      have HSk := Lib.hid (HSt.out k (P - k - 1))
      rw [show P - k - 1 + 1 = P - k by omega, HH.out k] at HSk
      have HSo1 := Lib.hid (HSo.out k)
      have hpo := hok.off
      have hpf := hok.fs
      clear hkR hcell hok
      generalize pg k = p at hcell' HSk HSo1 hpo hpf
      obtain ⟨ty, fl, po, va, pa, fs, ms, al⟩ := p
      unfold Pg.C at hcell'
      simp only [] at hcell' HSk HSo1 hpo hpf
      have t0 : wr.cell? ⟨b, o + k * 8, none⟩ = _ := hcell' 0 _ rfl
      have t1 := hcell' 1 _ rfl
      have t2 := hcell' 2 _ rfl
      have t3 := hcell' 3 _ rfl
      have t4 := hcell' 4 _ rfl
      have t5 := hcell' 5 _ rfl
      have t6 := hcell' 6 _ rfl
      have t7 := hcell' 7 _ rfl
      clear hcell'
      by_cases h0 : size = 0
      · have HF2 : Hid (f 0 P = f (k + 1) (P - (k + 1))) := Lib.hid (by rw [HF.out, HSk.out, if_neg (by simp [h0]), Nat.sub_sub])
        have d0 : decide (0 < size) = false := decide_eq_false (by omega)
        have d0' : decide ((0 : Int) < (size : Int)) = false := decide_eq_false (by omega)
        clear h0 hpo hpf
        go_wp2
        go_roundw
        case rel =>
          generalize hW : World.alloc _ _ = W1
          have hg5 := (blk1 hW).2
          exact ⟨k + 1, by omega, by go_num, HT1.out.grow hg5, HX1.out.grow hg5, HG2.out.trans hg5, HF2⟩
        case measure => simp [intOf]; omega
      have d0 : decide (0 < size) = true := decide_eq_true (by omega)
      have d0' : decide ((0 : Int) < (size : Int)) = true := decide_eq_true (by omega)
      by_cases h1 : ¬ ty = 1
      · have HF2 : Hid (f 0 P = f (k + 1) (P - (k + 1))) := Lib.hid (by rw [HF.out, HSk.out, if_neg (by simp [h1]), Nat.sub_sub])
        have d1 : ((ty : Int) == 1) = false := by simp; omega
        clear h0 h1 hpo hpf
        go_wp2
        go_roundw
        case rel =>
          generalize hW : World.alloc _ _ = W1
          have hg5 := (blk1 hW).2
          exact ⟨k + 1, by omega, by go_num, HT1.out.grow hg5, HX1.out.grow hg5, HG2.out.trans hg5, HF2⟩
        case measure => simp [intOf]; omega
      have h1 : ty = 1 := by omega
      have d1 : ((ty : Int) == 1) = true := by simp; omega
      by_cases h2 : ¬ po ≤ off
      · have HF2 : Hid (f 0 P = f (k + 1) (P - (k + 1))) := Lib.hid (by rw [HF.out, HSk.out, if_neg (by simp [h2]), Nat.sub_sub])
        have d2 : decide (po ≤ off) = false := decide_eq_false h2
        have d2' : decide ((po : Int) ≤ (off : Int)) = false := decide_eq_false (by omega)
        clear h0 h1 h2 hpo hpf
        go_wp2
        go_roundw
        case rel =>
          generalize hW : World.alloc _ _ = W1
          have hg5 := (blk1 hW).2
          exact ⟨k + 1, by omega, by go_num, HT1.out.grow hg5, HX1.out.grow hg5, HG2.out.trans hg5, HF2⟩
        case measure => simp [intOf]; omega
      have h2 : po ≤ off := by omega
      have d2 : decide (po ≤ off) = true := decide_eq_true h2
      have d2' : decide ((po : Int) ≤ (off : Int)) = true := decide_eq_true (by omega)
      have z1 : IntKind.u64.wrap ((off : Int) - (po : Int)) = ((off - po : Nat) : Int) := by rw [IntKind.wrap_u64]; omega
      have HWi := Lib.hid (fun W => within_any ((off - po : Nat) : Int) (size : Int) (fs : Int) W (by omega) (by omega) (by omega))
      have HE : Hid (wthn ((off - po : Nat) : Int) (size : Int) (fs : Int) = decide (off - po + size ≤ fs)) := Lib.hid (by unfold wthn; rw [Bool.eq_iff_iff, decide_eq_true_iff, decide_eq_true_iff]; omega)
      rw [HE.out] at HWi
      have HB : Hid ((decide (0 < size) && (decide (ty = 1) && (decide (po ≤ off) && decide (off - po + size ≤ fs)))) = decide (off - po + size ≤ fs)) := Lib.hid (by rw [decide_eq_true h1, d0, d2]; simp)
      rw [HB.out] at HSk
      clear h0 h1 h2 hpo hpf HB HE
      generalize decide (off - po + size ≤ fs) = hit at HWi HSk
      generalize off - po = D at z1 HWi HSo1
      go_wp2_with fail
      generalize hW : World.alloc _ _ = W1
      obtain ⟨b5, hg5⟩ := blk1 hW
      have HB5 := Lib.hid b5
      have HT2 := Lib.hid (HT1.out.grow hg5)
      have HX2 := Lib.hid (HX1.out.grow hg5)
      have HG3 : Hid (Grow w W1) := Lib.hid (HG2.out.trans hg5)
      clear hW b5 hg5 HT1 HX1 HG2 t0 t1 t2 t3 t4 t5 t6 t7
      refine (HWi.out _).mono ?_
      rintro e w2 ⟨rfl, rfl⟩
      cases hit with
      | false =>
        have HF2 : Hid (f 0 P = f (k + 1) (P - (k + 1))) := Lib.hid (by rw [HF.out, HSk.out, if_neg (by decide), Nat.sub_sub])
        go_wp2
        go_roundw
        case rel => exact ⟨k + 1, by omega, by go_num, HT2.out, HX2.out, HG3.out, HF2⟩
        case measure => simp [intOf]; omega
      | true =>
        have HE : Hid (F = ⟨(k : Int), D, size, []⟩) := Lib.hid (HSo1.out (by rw [HF.out, HSk.out, if_pos rfl]))
        have q2 := HB5.out.at 2
        go_wp2_with (refine wpList_store_row rfl 54 (.tmp 6) (.tmp 46) rfl g1 #[.int .i64 (k : Int), .int .u64 (D : Int), .int .u64 (size : Int), .slice none 0 0] rfl rfl _ _ HX2.out (by kernel_rfl) rfl (by simp [Value.oneCell']) ?_)
        refine bodyPost_ret (results_cell_row rfl _ _ g1 _ _ (0, 0) _ rfl (HX2.out.set _) Tryz.underlying54 rfl (by kernel_rfl)) rfl ?_
        exact ⟨none, 0, 0, by rw [HE.out]; rfl, by rw [HE.out]; exact OB.nil, Grow.set HG3.out HG1.out _⟩
    · have hkP : k = P := by omega
      have HE : Hid (F = O) := Lib.hid (HN.out (by
        rw [HF.out, hkP, Nat.sub_self]
        exact HN0.out P))
      obtain ⟨t0, t1, t2, t3⟩ := HT1.out.c4
      clear hk hkP
      go_wp2_with fail
      clear t0 t1 t2 t3
      refine (HO.out _ HG2.out).mono ?_
      rintro e w2 ⟨A2, n2, c2, rfl, ho, hg⟩
      have HX2 := Lib.hid (HX1.out.grow hg)
      have HG3 : Hid (Grow w w2) := Lib.hid (HG2.out.trans hg)
      have HO2 : Hid (OB w2 w.heap.size 5 A2 n2 c2 O.own) := Lib.hid (ho.mono HG2.out.size)
      have HNe : Hid (own A2 ≠ some g1) := Lib.hid fun e => by
        have h1 := HX1.out.lt
        have h2 := (ho.from_ e).1
        omega
      clear ho hg HX1 HG2 HT1
      unfold plC
      go_wp2_with (refine wpList_store_row rfl 54 (.tmp 6) (.tmp 51) rfl g1 #[.int .i64 O.inn, .int .u64 (O.off : Int), .int .u64 (O.size : Int), .slice A2 n2 c2] rfl rfl _ _ HX2.out (by kernel_rfl) rfl (by simp [Value.oneCell']) ?_)
      refine bodyPost_ret (results_cell_row rfl _ _ g1 _ _ (0, 0) _ rfl (HX2.out.set _) Tryz.underlying54 rfl (by kernel_rfl)) rfl ?_
      exact ⟨A2, n2, c2, by rw [HE.out]; rfl, by rw [HE.out]; exact HO2.out.beside HNe.out _, Grow.set HG3.out HG1.out _⟩
end Go.Proofs.YtlccbekalccahaaGreatDoor

namespace Go.Proofs.YtlccbekalccahaaGreatDoor
open Go.RowKit
set_option maxRecDepth 100000
set_option linter.unusedVariables false

/-- The place of a program header's, of a section header's bytes. -/
def pgPl (l : List UInt8) (p : Pg) : Pl := if p.ty = 1 then ownPl l p.off p.fs else findPl l p.off p.fs
def scPl (l : List UInt8) (i : Nat) (s : Sc) : Pl := if s.ty = 0 ∨ s.ty = 8 then ownPl l 0 0 else if i + 1 = nI l then ownPl l s.off s.sz else findPl l s.off s.sz

/-- From a place that a call has told to the place that the caller tells. -/
theorem pl_store {w w1 w2 : World} {g : Nat} {A2 : Option Addr} {n2 c2 : Nat} {P : Pl} (hG : Grow w w1) (hx : Blk w1 g 54 #[.int .i64 0, .int .u64 0, .int .u64 0, .slice none 0 0]) (ho : OB w2 w1.heap.size 5 A2 n2 c2 P.own) (hg : Grow w1 w2) (hge : w.heap.size ≤ g) :
    Blk w2 g 54 #[.int .i64 0, .int .u64 0, .int .u64 0, .slice none 0 0] ∧ ∀ cs, OB (w2.setRow g cs) w.heap.size 5 A2 n2 c2 P.own ∧ Grow w (w2.setRow g cs) := by
  refine ⟨hx.grow hg, fun cs => ⟨(ho.mono hG.size).beside (fun e => ?_) cs, Grow.set (hG.trans hg) hge cs⟩⟩
  have h1 := hx.lt
  have h2 := (ho.from_ e).1
  omega

set_option maxHeartbeats 4000000 in
theorem progPlace_any (l : List UInt8) (A : Option Addr) (n c : Nat) (A1 : Option Addr) (c1 : Nat) (T2 T3 : Value) (p : Pg) (ok : p.Ok) (w : World) (hr : RB w w.heap.size A n c l) (hz : ZS w w.heap.size 8 A1 (nP l) c1 (pgR l (nP l)))
    (hin : inB n p.off p.fs = true) (hlen : n ≤ 65536) (hP : nP l ≤ 16) :
    Calls Tryz.prog 73 #[.agg #[.slice A n c, .slice A1 (nP l) c1, T2, T3], p.V] w (PlaceR (pgPl l p) w) := by
  have HO := Lib.hid (fun W (hg : Grow w W) => ownPlace_any l A n c (.slice A1 (nP l) c1) T2 T3 p.off p.fs W (hr.grow hg) hin hlen)
  have HF := Lib.hid (fun W (hg : Grow w W) => find_any l A n c A1 c1 T2 T3 p.off p.fs W (hr.grow hg) (hz.grow hg) hin hlen hP ok.off ok.fs)
  have HE : Hid (pgPl l p = if p.ty = 1 then ownPl l p.off p.fs else findPl l p.off p.fs) := Lib.hid rfl
  unfold PlaceR at HO HF ⊢
  generalize pgPl l p = F at *
  clear hr hz hin
  obtain ⟨ty, fl, off, va, pa, fs, ms, al⟩ := p
  unfold Pg.V Pg.C
  simp only [] at *
  generalize ownPl l off fs = O1 at *
  generalize findPl l off fs = O2 at *
  generalize nP l = P at *
  clear ok hlen hP
  by_cases h1 : ty = 1
  · have HE2 : Hid (F = O1) := Lib.hid (by rw [HE.out, if_pos h1])
    have d1 : ((ty : Int) == 1) = true := by simp; omega
    clear h1 HE HF
    go_enter Tryz.func73, Tryz.ntmps73
    go_wp2_with fail
    generalize hW : World.alloc _ _ = W0
    obtain ⟨b0, b1, b2, hg0⟩ := blk3 hW
    clear hW b0 b1 d1
    refine (HO.out _ hg0).mono ?_
    rintro e w2 ⟨A2, n2, c2, rfl, ho, hg⟩
    obtain ⟨hx, hk⟩ := pl_store hg0 b2 ho hg (show w.heap.size ≤ w.heap.size + 1 + 1 by omega)
    have HX := Lib.hid hx
    have HK := Lib.hid hk
    clear ho hg hg0 b2 hx hk HO
    generalize w.heap.size + 1 + 1 = g at HX HK ⊢
    unfold plC
    go_wp2_with (refine wpList_store_row rfl 54 (.tmp 4) (.tmp 13) rfl g #[.int .i64 O1.inn, .int .u64 (O1.off : Int), .int .u64 (O1.size : Int), .slice A2 n2 c2] rfl rfl _ _ HX.out (by kernel_rfl) rfl (by simp [Value.oneCell']) ?_)
    refine bodyPost_ret (results_cell_row rfl _ _ g _ _ (0, 0) _ rfl (HX.out.set _) Tryz.underlying54 rfl (by kernel_rfl)) rfl ?_
    exact ⟨A2, n2, c2, by rw [HE2.out]; rfl, by rw [HE2.out]; exact (HK.out _).1, (HK.out _).2⟩
  · have HE2 : Hid (F = O2) := Lib.hid (by rw [HE.out, if_neg h1])
    have d1 : ((ty : Int) == 1) = false := by simp; omega
    clear h1 HE HO
    go_enter Tryz.func73, Tryz.ntmps73
    go_wp2_with fail
    generalize hW : World.alloc _ _ = W0
    obtain ⟨b0, b1, b2, hg0⟩ := blk3 hW
    clear hW b0 b1 d1
    refine (HF.out _ hg0).mono ?_
    rintro e w2 ⟨A2, n2, c2, rfl, ho, hg⟩
    obtain ⟨hx, hk⟩ := pl_store hg0 b2 ho hg (show w.heap.size ≤ w.heap.size + 1 + 1 by omega)
    have HX := Lib.hid hx
    have HK := Lib.hid hk
    clear ho hg hg0 b2 hx hk HF
    generalize w.heap.size + 1 + 1 = g at HX HK ⊢
    unfold plC
    go_wp2_with (refine wpList_store_row rfl 54 (.tmp 4) (.tmp 19) rfl g #[.int .i64 O2.inn, .int .u64 (O2.off : Int), .int .u64 (O2.size : Int), .slice A2 n2 c2] rfl rfl _ _ HX.out (by kernel_rfl) rfl (by simp [Value.oneCell']) ?_)
    refine bodyPost_ret (results_cell_row rfl _ _ g _ _ (0, 0) _ rfl (HX.out.set _) Tryz.underlying54 rfl (by kernel_rfl)) rfl ?_
    exact ⟨A2, n2, c2, by rw [HE2.out]; rfl, by rw [HE2.out]; exact (HK.out _).1, (HK.out _).2⟩

set_option maxHeartbeats 4000000 in
theorem sectPlace_any (l : List UInt8) (A : Option Addr) (n c : Nat) (A1 : Option Addr) (c1 : Nat) (A2 : Option Addr) (c2 : Nat) (i : Nat) (w : World) (hr : RB w w.heap.size A n c l) (hz : ZS w w.heap.size 8 A1 (nP l) c1 (pgR l (nP l)))
    (hy : ZS w w.heap.size 10 A2 (nS l - 1) c2 (scR l (nS l - 1))) (hi : i < nS l - 1) (hin : inB n (scs l (i + 1)).off (scs l (i + 1)).held = true) (hlen : n ≤ 65536) (hP : nP l ≤ 16) (hS : nS l ≤ 65) (hI : nI l < 18446744073709551616) :
    Calls Tryz.prog 75 #[.agg #[.slice A n c, .slice A1 (nP l) c1, .slice A2 (nS l - 1) c2, .int .u64 (nI l : Nat)], .int .i64 (i : Int)] w (PlaceR (scPl l i (scs l (i + 1))) w) := by
  have ok : (scs l (i + 1)).Ok := scOf_ok _ _ _ _
  have HO0 := Lib.hid (fun W (hg : Grow w W) => ownPlace_any l A n c (.slice A1 (nP l) c1) (.slice A2 (nS l - 1) c2) (.int .u64 (nI l : Nat)) 0 0 W (hr.grow hg) (by unfold inB; simp) hlen)
  have HO : Hid (bare (scs l (i + 1)).ty = false → ∀ W, Grow w W → Calls Tryz.prog 116 #[.agg #[.slice A n c, .slice A1 (nP l) c1, .slice A2 (nS l - 1) c2, .int .u64 (nI l : Nat)], .int .u64 ((scs l (i + 1)).off : Nat), .int .u64 ((scs l (i + 1)).sz : Nat)] W (PlaceR (ownPl l (scs l (i + 1)).off (scs l (i + 1)).sz) W)) := Lib.hid fun hb W hg =>
    ownPlace_any l A n c _ _ _ _ _ W (hr.grow hg) (by unfold Sc.held at hin; rwa [if_neg (by unfold bare at hb; simpa using hb)] at hin) hlen
  have HF : Hid (bare (scs l (i + 1)).ty = false → ∀ W, Grow w W → Calls Tryz.prog 117 #[.agg #[.slice A n c, .slice A1 (nP l) c1, .slice A2 (nS l - 1) c2, .int .u64 (nI l : Nat)], .int .u64 ((scs l (i + 1)).off : Nat), .int .u64 ((scs l (i + 1)).sz : Nat)] W (PlaceR (findPl l (scs l (i + 1)).off (scs l (i + 1)).sz) W)) := Lib.hid fun hb W hg =>
    find_any l A n c A1 c1 _ _ _ _ W (hr.grow hg) (hz.grow hg) (by unfold Sc.held at hin; rwa [if_neg (by unfold bare at hb; simpa using hb)] at hin) hlen hP ok.off ok.sz
  have HE : Hid (scPl l i (scs l (i + 1)) = if (scs l (i + 1)).ty = 0 ∨ (scs l (i + 1)).ty = 8 then ownPl l 0 0 else if i + 1 = nI l then ownPl l (scs l (i + 1)).off (scs l (i + 1)).sz else findPl l (scs l (i + 1)).off (scs l (i + 1)).sz) := Lib.hid rfl
  obtain ⟨b, o, hAA, hb, hcell⟩ := hy.pos (by omega)
  have hiR : i < (scR l (nS l - 1)).length := by simpa [scR] using hi
  have hcell' := hcell i hiR
  rw [scR_at l (nS l - 1) i hi hiR] at hcell'
  have hyc := hy.cap
  have hym := hy.max
  unfold maxLen at hym
  subst hAA
  unfold PlaceR at HO0 HO HF ⊢
  generalize scPl l i (scs l (i + 1)) = F at *
  generalize ownPl l (scs l (i + 1)).off (scs l (i + 1)).sz = O1 at *
  generalize findPl l (scs l (i + 1)).off (scs l (i + 1)).sz = O2 at *
  generalize ownPl l 0 0 = O0 at *
  clear hr hz hy hin hlen hcell hiR ok
  generalize scs l (i + 1) = s at *
  obtain ⟨na, ty, fl, ad, off, sz, li, inf, al, en⟩ := s
  unfold Sc.C at hcell'
  simp only [] at *
  generalize nP l = P at *
  generalize nI l = I at *
  have hi16 : i < 65 := by omega
  generalize nS l - 1 = S at *
  clear hP hS
  have HT := Lib.hid (hasNo_any ty)
  have HB : Hid (bare ty = (decide (ty = 0) || decide (ty = 8))) := Lib.hid rfl
  have t0 : w.cell? ⟨b, o + i * 10, none⟩ = _ := hcell' 0 _ rfl
  have t1 := hcell' 1 _ rfl
  have t2 := hcell' 2 _ rfl
  have t3 := hcell' 3 _ rfl
  have t4 := hcell' 4 _ rfl
  have t5 := hcell' 5 _ rfl
  have t6 := hcell' 6 _ rfl
  have t7 := hcell' 7 _ rfl
  have t8 := hcell' 8 _ rfl
  have t9 := hcell' 9 _ rfl
  clear hcell'
  go_enter Tryz.func75, Tryz.ntmps75
  go_wp2_with fail
  generalize hW : World.alloc _ _ = W0
  obtain ⟨b0, b1, b2, hg0⟩ := blk3 hW
  have HB0 := Lib.hid b0
  have HB1 := Lib.hid b1
  have HB2 := Lib.hid b2
  have HG0 := Lib.hid hg0
  clear hW b0 b1 b2 hg0 t0 t1 t2 t3 t4 t5 t6 t7 t8 t9
  have HGe : Hid (w.heap.size ≤ w.heap.size + 1) := Lib.hid (by omega)
  generalize w.heap.size + 1 + 1 = g2 at HB2 ⊢
  generalize w.heap.size + 1 = g at HB1 HGe ⊢
  obtain ⟨g0, hg0⟩ : ∃ x, x = w.heap.size := ⟨_, rfl⟩
  rw [← hg0] at HB0 ⊢
  clear hg0
  refine (HT.out _).mono ?_
  rintro e wx ⟨rfl, rfl⟩
  obtain ⟨v0, v1, v2, v3⟩ := HB0.out.c4
  cases hba : bare ty with
  | true =>
    have HE2 : Hid (F = O0) := Lib.hid (by
      have h := HB.out
      rw [hba] at h
      rw [HE.out, if_pos (by simpa using h.symm)])
    go_wp2_with fail
    clear v0 v1 v2 v3
    refine (HO0.out _ HG0.out).mono ?_
    rintro e w2 ⟨A5, n5, c5, rfl, ho, hg⟩
    obtain ⟨hx, hk⟩ := pl_store HG0.out HB1.out ho hg HGe.out
    have HX := Lib.hid hx
    have HK := Lib.hid hk
    clear ho hg hx hk HB0 HB1 HB2 HG0
    unfold plC
    go_wp2_with (refine wpList_store_row rfl 54 (.tmp 4) (.tmp 16) rfl g #[.int .i64 O0.inn, .int .u64 (O0.off : Int), .int .u64 (O0.size : Int), .slice A5 n5 c5] rfl rfl _ _ HX.out (by kernel_rfl) rfl (by simp [Value.oneCell']) ?_)
    refine bodyPost_ret (results_cell_row rfl _ _ g _ _ (0, 0) _ rfl (HX.out.set _) Tryz.underlying54 rfl (by kernel_rfl)) rfl ?_
    exact ⟨A5, n5, c5, by rw [HE2.out]; rfl, by rw [HE2.out]; exact (HK.out _).1, (HK.out _).2⟩
  | false =>
    have hty : ¬ (ty = 0 ∨ ty = 8) := by
      have h := HB.out
      rw [hba] at h
      simpa using h.symm
    have z1 : IntKind.u64.wrap (i : Int) = (i : Int) := by rw [IntKind.wrap_u64]; omega
    have z2 : IntKind.u64.wrap ((i : Int) + 1) = (i : Int) + 1 := by rw [IntKind.wrap_u64]; omega
    have q4 := HB2.out.at 4
    have q5 := HB2.out.at 5
    by_cases h1 : i + 1 = I
    · have HE2 : Hid (F = O1) := Lib.hid (by rw [HE.out, if_neg hty, if_pos h1])
      have d1 : (((i : Int) + 1) == (I : Int)) = true := by simp; omega
      clear h1 hty
      go_wp2_with fail
      clear v0 v1 v2 v3 q4 q5
      refine (HO.out hba _ HG0.out).mono ?_
      rintro e w2 ⟨A5, n5, c5, rfl, ho, hg⟩
      obtain ⟨hx, hk⟩ := pl_store HG0.out HB1.out ho hg HGe.out
      have HX := Lib.hid hx
      have HK := Lib.hid hk
      clear ho hg hx hk HB0 HB1 HB2 HG0
      unfold plC
      go_wp2_with (refine wpList_store_row rfl 54 (.tmp 4) (.tmp 29) rfl g #[.int .i64 O1.inn, .int .u64 (O1.off : Int), .int .u64 (O1.size : Int), .slice A5 n5 c5] rfl rfl _ _ HX.out (by kernel_rfl) rfl (by simp [Value.oneCell']) ?_)
      refine bodyPost_ret (results_cell_row rfl _ _ g _ _ (0, 0) _ rfl (HX.out.set _) Tryz.underlying54 rfl (by kernel_rfl)) rfl ?_
      exact ⟨A5, n5, c5, by rw [HE2.out]; rfl, by rw [HE2.out]; exact (HK.out _).1, (HK.out _).2⟩
    · have HE2 : Hid (F = O2) := Lib.hid (by rw [HE.out, if_neg hty, if_neg h1])
      have d1 : (((i : Int) + 1) == (I : Int)) = false := by simp; omega
      clear h1 hty
      go_wp2_with fail
      clear v0 v1 v2 v3 q4 q5
      refine (HF.out hba _ HG0.out).mono ?_
      rintro e w2 ⟨A5, n5, c5, rfl, ho, hg⟩
      obtain ⟨hx, hk⟩ := pl_store HG0.out HB1.out ho hg HGe.out
      have HX := Lib.hid hx
      have HK := Lib.hid hk
      clear ho hg hx hk HB0 HB1 HB2 HG0
      unfold plC
      go_wp2_with (refine wpList_store_row rfl 54 (.tmp 4) (.tmp 35) rfl g #[.int .i64 O2.inn, .int .u64 (O2.off : Int), .int .u64 (O2.size : Int), .slice A5 n5 c5] rfl rfl _ _ HX.out (by kernel_rfl) rfl (by simp [Value.oneCell']) ?_)
      refine bodyPost_ret (results_cell_row rfl _ _ g _ _ (0, 0) _ rfl (HX.out.set _) Tryz.underlying54 rfl (by kernel_rfl)) rfl ?_
      exact ⟨A5, n5, c5, by rw [HE2.out]; rfl, by rw [HE2.out]; exact (HK.out _).1, (HK.out _).2⟩
end Go.Proofs.YtlccbekalccahaaGreatDoor

namespace Go.Proofs.YtlccbekalccahaaGreatDoor
open Go.RowKit
set_option linter.unusedVariables false

/-- The row r holds a, its bytes the call's own. -/
def RO {α : Type} (K : RK α) (w : World) (base : Nat) (r : Array Value) (a : α) : Prop := ∃ A n c, r = K.cs a (.slice A n c) ∧ OB w base 5 A n c (K.by_ a)
/-- The slice is the call's own, and holds the list L, each with its bytes. -/
def GR {α : Type} (K : RK α) (w : World) (base : Nat) (e : TypeId) (A : Option Addr) (k c : Nat) (L : List α) : Prop :=
  ∃ R, ZO w base e K.z A k c R ∧ R.length = L.length ∧ ∀ j (h : j < R.length) (h' : j < L.length), RO K w base R[j] L[j]
theorem OB.kindNe {w : World} {base base' : Nat} {e e' : TypeId} {z : Nat} {A A' : Option Addr} {n c n' c' : Nat} {l : List UInt8} {R : List (Array Value)} (h : OB w base e A n c l) (h' : ZO w base' e' z A' n' c' R) (ht : e ≠ e') : own A = none ∨ own A ≠ own A' := by
  rcases h.2 with ⟨hv, _⟩ | ⟨g, cap, cur, hv, _, hh, _⟩
  · injection hv with e1 _ _
    subst e1
    exact .inl rfl
  · injection hv with e1 _ _
    subst e1
    refine .inr fun hA => ?_
    rcases h'.1.2 with ⟨hv', _⟩ | ⟨g', cap', cur', hv', _, hh', _⟩
    · injection hv' with e1 _ _
      subst e1
      cases hA
    · injection hv' with e1 _ _
      subst e1
      have e3 : g = g' := Option.some.inj hA
      subst e3
      rw [hh] at hh'
      injection hh' with hh'
      injection hh' with _ hh'
      exact ht hh'
theorem OB.passed {w w' : World} {base : Nat} {e : TypeId} {A : Option Addr} {n c : Nat} {l : List UInt8} {row : Option Nat} (h : OB w base e A n c l) (hg : w.grownBy w' row) (hne : own A = none ∨ own A ≠ row) : OB w' base e A n c l := World.ownsRow.kept h hg (by rw [own_slice]; exact hne)
section
variable {α β : Type} {K : RK α} {K' : RK β} {w w' : World} {base : Nat} {e e' : TypeId} {A A' : Option Addr} {k c k' c' : Nat} {L : List α} {L' : List β}
theorem GR.nil (hz : True) : GR K w base e none 0 0 ([] : List α) := ⟨[], ZO.nil, rfl, fun j h => absurd h (by simp)⟩
theorem RO.keep {r : Array Value} {a : α} (h : RO K w base r a) (hg : Grow w w') : RO K w' base r a := by
  obtain ⟨A, n, c, e1, h1⟩ := h
  exact ⟨A, n, c, e1, h1.keep hg⟩
theorem GR.keep (h : GR K w base e A k c L) (hg : Grow w w') : GR K w' base e A k c L := by
  obtain ⟨R, h1, h2, h3⟩ := h
  exact ⟨R, h1.keep hg, h2, fun j a b => (h3 j a b).keep hg⟩
/-- Past an append to rows of another kind. -/
theorem GR.past {z : Nat} {A2 : Option Addr} {n2 c2 : Nat} {R2 : List (Array Value)} (h : GR K w base e A k c L) (h' : ZO w base e' z A2 n2 c2 R2) (hne : e ≠ e') (hu : 5 ≠ e') (hg : w.grownBy w' (own A2)) : GR K w' base e A k c L := by
  obtain ⟨R, h1, h2, h3⟩ := h
  refine ⟨R, h1.past hg (h1.kinds h' hne), h2, fun j a b => ?_⟩
  obtain ⟨A, n, c, e1, h4⟩ := h3 j a b
  exact ⟨A, n, c, e1, h4.passed hg (h4.kindNe h' hu)⟩
/-- Beside a store into a block that is older. -/
theorem GR.set {g : Nat} (h : GR K w base e A k c L) (hg : g < base) (cs : Array Value) : GR K (w.setRow g cs) base e A k c L := by
  obtain ⟨R, h1, h2, h3⟩ := h
  refine ⟨R, h1.other (h1.notb hg) cs, h2, fun j a b => ?_⟩
  obtain ⟨A, n, c, e1, h4⟩ := h3 j a b
  exact ⟨A, n, c, e1, h4.beside (fun e => by have := (h4.from_ e).1; omega) cs⟩
theorem GR.mono {b : Nat} (h : GR K w base e A k c L) (hb : b ≤ base) : GR K w b e A k c L := by
  obtain ⟨R, h1, h2, h3⟩ := h
  exact ⟨R, h1.mono hb, h2, fun j a b' => by
    obtain ⟨A, n, c, e1, h4⟩ := h3 j a b'
    exact ⟨A, n, c, e1, h4.mono hb⟩⟩
theorem GR.zr (h : GR K w base e A k c L) : ZR K w w.heap.size A k c L := by
  obtain ⟨R, h1, h2, h3⟩ := h
  exact ⟨R, h1.zs, h2, fun j a b => by
    obtain ⟨A, n, c, e1, h4⟩ := h3 j a b
    exact ⟨A, n, c, e1, h4.rb⟩⟩
theorem GR.ge (h : GR K w base e A k c L) : ∀ g, own A = some g → base ≤ g := by
  obtain ⟨R, h1, _⟩ := h
  exact fun g hg => h1.ge hg
/-- What an append of one leaves. -/
theorem GR.snoc {A2 : Option Addr} {c2 : Nat} {r : Array Value} {a : α} {R : List (Array Value)} (h1 : ZO w base e K.z A k c R) (h2 : R.length = L.length) (h3 : ∀ j (h : j < R.length) (h' : j < L.length), RO K w base R[j] L[j]) (hr : RO K w base r a) (hu : 5 ≠ e)
    (ho : ZO w' base e K.z A2 (k + 1) c2 (R ++ [r])) (hg : w.grownBy w' (own A)) : GR K w' base e A2 (k + 1) c2 (L ++ [a]) := by
  have key : ∀ {r : Array Value} {a : α}, RO K w base r a → RO K w' base r a := fun h => by
    obtain ⟨A, n, c, e1, h4⟩ := h
    exact ⟨A, n, c, e1, h4.passed hg (h4.kindNe h1 hu)⟩
  refine ⟨R ++ [r], ho, by simp [h2], fun j h h' => ?_⟩
  by_cases hj : j < R.length
  · have hj' : j < L.length := by rw [← h2]; exact hj
    rw [List.getElem_append_left hj, List.getElem_append_left hj']
    exact key (h3 j hj hj')
  · have e1 : j = R.length := by simp at h; omega
    subst e1
    have hl : L.length ≤ R.length := by rw [h2]; exact Nat.le_refl _
    rw [List.getElem_append_right (Nat.le_refl _), List.getElem_append_right hl]
    simpa using key hr
end

/-- What of a model's reading stays. -/
structure MB (w W : World) (g0 g1 g2 g3 : Nat) (c0 c1 c2 : Array Value) (M : Value → Value → Array Value) (X1 X2 : Value) : Prop where
  t : Blk W g0 92 c0
  h : Blk W g1 69 c1
  z : Blk W g2 32 c2
  m : Blk W g3 32 (M X1 X2)
  g : Grow w W
structure MBA (w : World) (g0 g1 g2 g3 base : Nat) : Prop where
  b : base = g3 + 1
  a0 : g0 < base
  a1 : g1 < base
  a2 : g2 < base
  w2 : w.heap.size ≤ g2
  w3 : w.heap.size ≤ g3
  n0 : g0 ≠ g3
  n1 : g1 ≠ g3
  n2 : g2 ≠ g3
section
variable {w W W' : World} {g0 g1 g2 g3 base : Nat} {c0 c1 c2 : Array Value} {M : Value → Value → Array Value} {X1 X2 : Value}
theorem MB.grow (h : MB w W g0 g1 g2 g3 c0 c1 c2 M X1 X2) (hg : Grow W W') : MB w W' g0 g1 g2 g3 c0 c1 c2 M X1 X2 := ⟨h.t.grow hg, h.h.grow hg, h.z.grow hg, h.m.grow hg, h.g.trans hg⟩
theorem MB.by_ (h : MB w W g0 g1 g2 g3 c0 c1 c2 M X1 X2) (a : MBA w g0 g1 g2 g3 base) {row : Option Nat} (hg : W.grownBy W' row) (hr : ∀ k, row = some k → base ≤ k) : MB w W' g0 g1 g2 g3 c0 c1 c2 M X1 X2 :=
  have key : ∀ g, g < base → some g ≠ row := fun g hl e => by have := hr g e.symm; omega
  ⟨h.t.grownBy hg (key _ a.a0), h.h.grownBy hg (key _ a.a1), h.z.grownBy hg (key _ a.a2), h.m.grownBy hg (key _ (by have := a.b; omega)), h.g.trans' ((Below.refl _ W).grown hg h.g.size fun k hk => by have := hr k hk; have := a.b; have := a.w3; omega)⟩
theorem MB.set (h : MB w W g0 g1 g2 g3 c0 c1 c2 M X1 X2) (a : MBA w g0 g1 g2 g3 base) (Y1 Y2 : Value) : MB w (W.setRow g3 (M Y1 Y2)) g0 g1 g2 g3 c0 c1 c2 M Y1 Y2 :=
  ⟨h.t.other a.n0 _, h.h.other a.n1 _, h.z.other a.n2 _, h.m.set _, h.g.set a.w3 _⟩
theorem MB.base_le (h : MB w W g0 g1 g2 g3 c0 c1 c2 M X1 X2) (a : MBA w g0 g1 g2 g3 base) : base ≤ W.heap.size := by have := h.m.lt; have := a.b; omega
theorem kept_row {S : Nat → Prop} {row : Option Nat} (h : w.grownBy W row) (hS : ∀ k, row = some k → ¬ S k) : Kept S w W := ⟨h.size, fun k hk hs => h.block k hk (fun e => hS k e.symm hs)⟩
end
end Go.Proofs.YtlccbekalccahaaGreatDoor
