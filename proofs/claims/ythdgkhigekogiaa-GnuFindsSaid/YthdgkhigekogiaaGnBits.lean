/-
  The contracts of gnu.bitsOf, filter, places and chain: a table's words, its buckets' first places, its chain.
-/
import Derived.Test.YthdgkhigekogiaaGnHash
namespace Go.Proofs.Ythdgkhigekogiaa
open Go.RowKit

theorem one_shl (r : Nat) (h : r < 64) : Op.shift .shl .u64 1 .u64 (r : Int) = pure (.int .u64 ((2 ^ r : Nat) : Int)) := by
  have h2 : 2 ^ r < 2 ^ 64 := Nat.pow_lt_pow_right (by decide) h
  rw [shift_shl_any _ _ _ _ (by omega), show min ((r : Int)).toNat IntKind.u64.bits = r by simp [IntKind.bits]; omega, IntKind.wrap_u64]
  congr 2
  have e : (1 : Int) * 2 ^ r = ((2 ^ r : Nat) : Int) := by simp
  rw [e]
  generalize 2 ^ r = p at h2 ⊢
  omega
theorem nat_shr (x r : Nat) (h : r < 64) : Op.shift .shr .u64 (x : Int) .u64 (r : Int) = pure (.int .u64 ((x / 2 ^ r : Nat) : Int)) := by
  rw [shift_shr_any _ _ _ _ (by omega), show min ((r : Int)).toNat IntKind.u64.bits = r by simp [IntKind.bits]; omega]
  congr 2

set_option maxHeartbeats 400000 in
theorem bitsOf_any (b f wd sh z h : Nat) (w : World) (hz : z = 4 ∨ z = 8) (hw : 1 ≤ wd) (hs : sh ≤ 31) (h32 : h < 4294967296) :
    Calls Try.prog 33 #[.agg (shC b f wd sh z), .int .u32 (h : Int)] w fun e w' => e = .returned (.tuple #[.int .u64 (h / (8 * z) % wd : Nat), .int .u64 ((2 ^ (h % (8 * z)) ||| 2 ^ (h / 2 ^ sh % (8 * z)) : Nat) : Int)]) ∧ Grow w w' := by
  obtain ⟨W, hW⟩ : ∃ W, W = 8 * z := ⟨_, rfl⟩
  have h0 : ¬ W = 0 := by omega
  have h1 : ((W : Int) == 0) = false := by simp; omega
  have h2 : ¬ (W : Int) = -1 := by omega
  have k0 : ¬ wd = 0 := by omega
  have k1 : ((wd : Int) == 0) = false := by simp; omega
  have k2 : ¬ (wd : Int) = -1 := by omega
  have e1 : IntKind.u64.wrap (h : Int) = (h : Int) := by rw [IntKind.wrap_u64]; omega
  have e2 : IntKind.u64.wrap (8 * (z : Int)) = (W : Int) := by rw [IntKind.wrap_u64]; omega
  obtain ⟨q, hq⟩ : ∃ q, q = h / W := ⟨_, rfl⟩
  have e3 : Int.tdiv (h : Int) (W : Int) = (q : Int) := by rw [hq]; exact Int.ofNat_tdiv h W
  have hq2 : q < 4294967296 := by rw [hq]; exact Nat.lt_of_le_of_lt (Nat.div_le_self _ _) h32
  have e4 : IntKind.u64.wrap (q : Int) = (q : Int) := by rw [IntKind.wrap_u64]; omega
  obtain ⟨a, ha⟩ : ∃ a, a = q % wd := ⟨_, rfl⟩
  have e5 : Int.tmod (q : Int) (wd : Int) = (a : Int) := by rw [ha]; exact Int.ofNat_tmod q wd
  obtain ⟨r1, hr1⟩ : ∃ r, r = h % W := ⟨_, rfl⟩
  have e6 : Int.tmod (h : Int) (W : Int) = (r1 : Int) := by rw [hr1]; exact Int.ofNat_tmod h W
  have l1 : r1 < 64 := by rw [hr1]; have := Nat.mod_lt h (show 0 < W by omega); omega
  obtain ⟨y, hy⟩ : ∃ y, y = h / 2 ^ sh := ⟨_, rfl⟩
  have e7 := nat_shr h sh (by omega)
  rw [← hy] at e7
  obtain ⟨r2, hr2⟩ : ∃ r, r = y % W := ⟨_, rfl⟩
  have ey : (h : Int) / 2 ^ sh = (y : Int) := by rw [hy]; simp
  have e8 : Int.tmod ((h : Int) / 2 ^ sh) (W : Int) = (r2 : Int) := by rw [ey, hr2]; exact Int.ofNat_tmod y W
  have l2 : r2 < 64 := by rw [hr2]; have := Nat.mod_lt y (show 0 < W by omega); omega
  have e9 := one_shl r1 l1
  have e10 := one_shl r2 l2
  have b1 : 2 ^ r1 < 2 ^ 64 := Nat.pow_lt_pow_right (by decide) l1
  have b2 : 2 ^ r2 < 2 ^ 64 := Nat.pow_lt_pow_right (by decide) l2
  have e11 := u64_or_nat (2 ^ r1) (2 ^ r2) b1 b2
  have ho : h / (8 * z) % wd = a ∧ (2 ^ (h % (8 * z)) ||| 2 ^ (h / 2 ^ sh % (8 * z))) = (2 ^ r1 ||| 2 ^ r2) := by
    rw [← hW, ← hq, ← ha, ← hr1, ← hy, ← hr2]
    exact ⟨rfl, rfl⟩
  rw [ho.1, ho.2]
  generalize 2 ^ r1 ||| 2 ^ r2 = o at e11 ⊢
  generalize 2 ^ r1 = p1 at e9 e11
  generalize 2 ^ r2 = p2 at e10 e11
  clear ho ey b1 b2 l1 l2 hr1 hr2 hy ha hq hq2 hW hz hw
  unfold shC
  go_enter Try.func33, Try.ntmps33
  go_wp2_with fail
  go_quiet (fail)
  go_wp2_with fail
  go_quiet (fail)
  go_wp2
  go_ret2
  exact ⟨rfl, ((Grow.of_alloc _ _).trans (Grow.of_drewN _ _)).trans (Grow.of_drewN _ _)⟩

/-! ### The words -/
set_option maxHeartbeats 1000000 in
theorem filter_any (b f wd sh z gh n c : Nat) (H At Bt : Nat → Nat) (w : World) (hz : z = 4 ∨ z = 8) (hw : 1 ≤ wd) (hw2 : wd ≤ 1024) (hs : sh ≤ 31) (hH : ∀ i, i < n → H i < 4294967296)
    (hAt : ∀ i, i < n → H i / (8 * z) % wd = At i) (hBt : ∀ i, i < n → (2 ^ (H i % (8 * z)) ||| 2 ^ (H i / 2 ^ sh % (8 * z))) = Bt i) (hr : w.rowIs gh 40 n (ivl .u32 H)) (hn : n ≤ 1000) (_hnc : n ≤ c) :
    Calls Try.prog 20 #[.agg (shC b f wd sh z), .slice (some ⟨gh, 0, none⟩) n c] w fun e w' => ∃ g, e = .returned (.slice (some ⟨g, 0, none⟩) wd wd) ∧ w.heap.size ≤ g ∧ w'.rowIs g 43 wd (ivl .u64 (wdTo At Bt n)) ∧ Grow w w' := by
  have hmk : ∀ W : World, (Instr.makeSlice 42 (.int .u64 (wd : Int)) (.int .u64 (wd : Int))).run Try.prog W = .ok (.slice (some ⟨W.heap.size, 0, none⟩) wd wd) (W.alloc (.cells (madeCells #[.int .u64 0] wd) 43)) :=
    fun W => run_make_row' 42 43 (.int .u64 0) 8 Try.underlying42 (by kernel_rfl) rfl _ _ wd (by omega) (by omega) W
  have HA := Lib.hid hAt
  have HBt := Lib.hid hBt
  have HH := Lib.hid hH
  have HRH := Lib.hid hr
  have HZ := Lib.hid hz
  have HW := Lib.hid hw
  have HSh := Lib.hid hs
  have HAl : Hid (∀ i, i < n → At i < wd) := Lib.hid fun i hi => by rw [← hAt i hi]; exact Nat.mod_lt _ (by omega)
  have HBl : Hid (∀ i, i < n → Bt i < 2 ^ 64) := Lib.hid fun i hi => by
    rw [← hBt i hi]
    exact Nat.or_lt_two_pow (Nat.pow_lt_pow_right (by decide) (by have := Nat.mod_lt (H i) (show 0 < 8 * z by omega); omega)) (Nat.pow_lt_pow_right (by decide) (by have := Nat.mod_lt (H i / 2 ^ sh) (show 0 < 8 * z by omega); omega))
  have hgl := hr.lt
  unfold shC
  clear hAt hBt hH hr hz hs
  go_enter Try.func20, Try.ntmps20
  go_wp2
  generalize hW0 : World.alloc _ _ = W0
  obtain ⟨G, hG⟩ : ∃ G, G = w.heap.size := ⟨_, rfl⟩
  have HG := Lib.hid hG
  have HBox : Hid (Blk W0 G 45 #[.int .u64 (b : Int), .int .u64 (f : Int), .int .u64 (wd : Int), .int .u64 (sh : Int), .int .u64 (z : Int)]) := Lib.hid (by rw [← hW0, hG]; exact (Blk.new _ _ _).alloc _)
  have HRow : Hid (W0.rowIs (G + 1) 43 wd (ivl .u64 (wdTo At Bt 0))) := Lib.hid (by
    have := World.rowIs_made (w.alloc (.cells #[.int .u64 (b : Int), .int .u64 (f : Int), .int .u64 (wd : Int), .int .u64 (sh : Int), .int .u64 (z : Int)] 45)) (.int .u64 0) wd 43
    rw [hW0] at this
    rw [show (w.alloc (.cells #[.int .u64 (b : Int), .int .u64 (f : Int), .int .u64 (wd : Int), .int .u64 (sh : Int), .int .u64 (z : Int)] 45)).heap.size = G + 1 by simp [hG]] at this
    exact this.congr fun i _ => by simp [ivl, wdTo])
  have HGr : Hid (Below G w W0) := Lib.hid (by rw [← hW0, hG]; exact (Grow.of_alloc _ _).trans (Grow.of_alloc _ _))
  have HSz : Hid (G + 1 < W0.heap.size) := Lib.hid (by rw [← hW0, hG]; simp)
  rw [← hG] at hgl ⊢
  clear hmk hW0 hG hw
  go_loopw [15] (fun i wr => ∃ k : Nat, k ≤ n ∧ i = .int .i64 k ∧ wr.rowIs (G + 1) 43 wd (ivl .u64 (wdTo At Bt k)) ∧ Blk wr G 45 #[.int .u64 (b : Int), .int .u64 (f : Int), .int .u64 (wd : Int), .int .u64 (sh : Int), .int .u64 (z : Int)] ∧ Below G w wr ∧ G + 1 < wr.heap.size) (fun i _ => n - (intOf i).toNat)
  case atStart => exact ⟨0, Nat.zero_le _, rfl, HRow.out, HBox.out, HGr.out, HSz.out⟩
  case round =>
    obtain ⟨k, hk, rfl, hrow, hbox, hbel, hsz⟩ := hrel
    have HR := Lib.hid hrow
    have HX := Lib.hid hbox
    have HL := Lib.hid hbel
    have HZs := Lib.hid hsz
    clear HRow HBox HGr HSz hrow hbox hbel hsz
    by_cases hlt : k < n
    · have q : wr.cell? ⟨gh, k, none⟩ = some (.int .u32 (H k : Int)) := (rows_below HRH.out HL.out hgl).cell hlt
      obtain ⟨c0, c1, c2, c3, c4⟩ := HX.out.c5
      have HC := Lib.hid (bitsOf_any b f wd sh z (H k) · HZ.out HW.out HSh.out (HH.out k hlt))
      rw [HA.out k hlt, HBt.out k hlt] at HC
      go_wp2_with fail
      refine (HC.out _).mono ?_
      rintro e w' ⟨rfl, hg⟩
      have hrow := rows_grow HR.out hg
      have hal := HAl.out k hlt
      have c5 : w'.cell? ⟨G + 1, At k, none⟩ = some (.int .u64 (wdTo At Bt k (At k) : Int)) := hrow.cell hal
      have f5 := hrow.frozen (At k)
      have hx1 : wdTo At Bt k (At k) < 2 ^ 64 := wdTo_lt k (At k) fun i hi => HBl.out i (by omega)
      have e1 := u64_or_nat (wdTo At Bt k (At k)) (Bt k) hx1 (HBl.out k hlt)
      have HR2 : Hid ((w'.setCell ⟨G + 1, At k, none⟩ (.int .u64 ((wdTo At Bt k (At k) ||| Bt k : Nat) : Int))).rowIs (G + 1) 43 wd (ivl .u64 (wdTo At Bt (k + 1)))) :=
        Lib.hid ((hrow.set (At k) _).congr fun j _ => by simp only [ivl, wdTo]; split <;> rfl)
      have HX2 := Lib.hid ((HX.out.grow hg).cellset (a := ⟨G + 1, At k, none⟩) (by simp) (.int .u64 ((wdTo At Bt k (At k) ||| Bt k : Nat) : Int)))
      have HL2 := Lib.hid ((HL.out.trans (hg.mono (by have := HZs.out; omega))).setCell (p := ⟨G + 1, At k, none⟩) (by show G ≤ G + 1; omega) (.int .u64 ((wdTo At Bt k (At k) ||| Bt k : Nat) : Int)))
      have HZ2 := Lib.hid (Nat.lt_of_lt_of_le HZs.out hg.size)
      generalize wdTo At Bt k (At k) ||| Bt k = o at e1 HR2 HX2 HL2
      generalize wdTo At Bt k (At k) = x at c5 hx1 e1
      generalize Bt k = y at e1 ⊢
      generalize At k = a at hal c5 f5 HR2 HX2 HL2 ⊢
      have p1 : (a : Int) < (wd : Int) := by omega
      clear hrow hg c0 c1 c2 c3 c4 q hx1 HC
      go_wp2
      go_roundw
      case rel => exact ⟨k + 1, by omega, by go_num, HR2.out, HX2.out, HL2.out, by simpa using HZ2.out⟩
      case measure => simp [intOf]; omega
    · have e : k = n := by omega
      subst e
      go_wp2
      go_ret
      refine ⟨G + 1, rfl, by rw [← HG.out]; omega, HR.out, ?_⟩
      have := HL.out
      rw [HG.out] at this
      exact this

/-! ### The buckets' first places -/
set_option maxHeartbeats 1000000 in
theorem places_any (b f wd sh z gi n c : Nat) (K : Nat → Nat) (w : World) (hb : b ≤ 1024) (hf : f ≤ 65536) (hK : ∀ i, i < n → K i < b) (hr : w.rowIs gi 43 n (ivl .u64 K)) (hn : n ≤ 1000) (hnc : n ≤ c) (hc : c ≤ maxLen) :
    Calls Try.prog 21 #[.agg (shC b f wd sh z), .slice (some ⟨gi, 0, none⟩) n c] w fun e w' => ∃ g, e = .returned (.slice (some ⟨g, 0, none⟩) b b) ∧ w.heap.size ≤ g ∧ w'.rowIs g 43 b (ivl .u64 (plTo f K n)) ∧ Grow w w' := by
  unfold maxLen at hc
  have hmk : ∀ W : World, (Instr.makeSlice 42 (.int .u64 (b : Int)) (.int .u64 (b : Int))).run Try.prog W = .ok (.slice (some ⟨W.heap.size, 0, none⟩) b b) (W.alloc (.cells (madeCells #[.int .u64 0] b) 43)) :=
    fun W => run_make_row' 42 43 (.int .u64 0) 8 Try.underlying42 (by kernel_rfl) rfl _ _ b (by omega) (by omega) W
  have HK := Lib.hid hK
  have HRI := Lib.hid hr
  have hgl := hr.lt
  unfold shC
  clear hK hr
  go_enter Try.func21, Try.ntmps21
  go_wp2
  generalize hW0 : World.alloc _ _ = W0
  obtain ⟨G, hG⟩ : ∃ G, G = w.heap.size := ⟨_, rfl⟩
  have HG := Lib.hid hG
  have HBox : Hid (Blk W0 G 45 #[.int .u64 (b : Int), .int .u64 (f : Int), .int .u64 (wd : Int), .int .u64 (sh : Int), .int .u64 (z : Int)]) := Lib.hid (by rw [← hW0, hG]; exact (Blk.new _ _ _).alloc _)
  have HRow : Hid (W0.rowIs (G + 1) 43 b (ivl .u64 (plTo f K 0))) := Lib.hid (by
    have := World.rowIs_made (w.alloc (.cells #[.int .u64 (b : Int), .int .u64 (f : Int), .int .u64 (wd : Int), .int .u64 (sh : Int), .int .u64 (z : Int)] 45)) (.int .u64 0) b 43
    rw [hW0] at this
    rw [show (w.alloc (.cells #[.int .u64 (b : Int), .int .u64 (f : Int), .int .u64 (wd : Int), .int .u64 (sh : Int), .int .u64 (z : Int)] 45)).heap.size = G + 1 by simp [hG]] at this
    exact this.congr fun i _ => by simp [ivl, plTo])
  have HGr : Hid (Below G w W0) := Lib.hid (by rw [← hW0, hG]; exact (Grow.of_alloc _ _).trans (Grow.of_alloc _ _))
  rw [← hG] at hgl ⊢
  clear hmk hW0 hG
  go_loopw [13] (fun i wr => ∃ k : Nat, k ≤ n ∧ i = .int .i64 k ∧ wr.rowIs (G + 1) 43 b (ivl .u64 (plTo f K k)) ∧ Blk wr G 45 #[.int .u64 (b : Int), .int .u64 (f : Int), .int .u64 (wd : Int), .int .u64 (sh : Int), .int .u64 (z : Int)] ∧ Below G w wr) (fun i _ => n - (intOf i).toNat)
  case atStart => exact ⟨0, Nat.zero_le _, rfl, HRow.out, HBox.out, HGr.out⟩
  case round =>
    obtain ⟨k, hk, rfl, hrow, hbox, hbel⟩ := hrel
    have HR := Lib.hid hrow
    have HX := Lib.hid hbox
    have HL := Lib.hid hbel
    clear HRow HBox HGr hrow hbox hbel
    by_cases hlt : k < n
    · have q : wr.cell? ⟨gi, k, none⟩ = some (.int .u64 (K k : Int)) := (rows_below HRI.out HL.out hgl).cell hlt
      obtain ⟨c0, c1, c2, c3, c4⟩ := HX.out.c5
      have hal := HK.out k hlt
      have c5 : wr.cell? ⟨G + 1, K k, none⟩ = some (.int .u64 (plTo f K k (K k) : Int)) := HR.out.cell hal
      have f5 := HR.out.frozen (K k)
      have HR2 := Lib.hid (HR.out.set (K k) (.int .u64 ((f + k : Nat) : Int)))
      have HX2 := Lib.hid (HX.out.cellset (a := ⟨G + 1, K k, none⟩) (by simp) (.int .u64 ((f + k : Nat) : Int)))
      have HL2 := Lib.hid (HL.out.setCell (p := ⟨G + 1, K k, none⟩) (by show G ≤ G + 1; omega) (.int .u64 ((f + k : Nat) : Int)))
      have e0 : ((f + k : Nat) : Int) = (f : Int) + (k : Int) := by omega
      have e1 : IntKind.u64.wrap ((f : Int) + (k : Int)) = (f : Int) + (k : Int) := by rw [IntKind.wrap_u64]; omega
      have e2 : IntKind.u64.wrap (k : Int) = (k : Int) := by rw [IntKind.wrap_u64]; omega
      have p1 : ((K k : Nat) : Int) < (b : Int) := by omega
      by_cases hx : plTo f K k (K k) = 0
      · have HR3 : Hid ((wr.setCell ⟨G + 1, K k, none⟩ (.int .u64 ((f : Int) + (k : Int)))).rowIs (G + 1) 43 b (ivl .u64 (plTo f K (k + 1)))) := Lib.hid (by
          rw [← e0]
          refine HR2.out.congr fun j _ => ?_
          simp only [ivl, plTo, if_pos hx]
          split <;> rfl)
        rw [e0] at HX2 HL2
        rw [hx] at c5
        clear hx HR2 e0
        generalize K k = a at hal q c5 f5 p1 HR3 HX2 HL2
        go_wp2
        go_roundw
        case rel => exact ⟨k + 1, by omega, by go_num, HR3.out, HX2.out, HL2.out⟩
        case measure => simp [intOf]; omega
      · have HR3 : Hid (wr.rowIs (G + 1) 43 b (ivl .u64 (plTo f K (k + 1)))) := Lib.hid (by
          refine HR.out.congr fun j _ => ?_
          simp only [ivl, plTo, if_neg hx]
          split
          · rename_i e; rw [e]
          · rfl)
        have hz : (((plTo f K k (K k) : Nat) : Int) == 0) = false := by simp; exact hx
        generalize plTo f K k (K k) = x at c5 hx hz
        generalize K k = a at hal q c5 f5 p1
        clear HR2 HX2 HL2 e0
        go_wp2
        go_roundw
        case rel => exact ⟨k + 1, by omega, by go_num, HR3.out, HX.out, HL.out⟩
        case measure => simp [intOf]; omega
    · have e : k = n := by omega
      subst e
      go_wp2
      go_ret
      refine ⟨G + 1, rfl, by rw [← HG.out]; omega, HR.out, ?_⟩
      have := HL.out
      rw [HG.out] at this
      exact this
end Go.Proofs.Ythdgkhigekogiaa
