/-
  The contracts of gnu.Hash, hashesOf, bucket, bucketsOf, within, mayBe, wordSize, of slices.IsSorted at []uint64, and of the statements' Pick.
-/
import Derived.Test.YthdgkhigekogiaaGnMath
import Derived.Test.YthdgkhigekogiaaGnStab
import Derived.Test.YthdgkhigekogiaaForm
import Derived.Laws.Bits64b
namespace Go.Proofs.Ythdgkhigekogiaa
open Go.RowKit

theorem pick_by (n : Int) (m : Nat) (w : World) (h0 : 0 < m) (h1 : m < 1000000) : Calls Try.prog 6 #[.int .i64 n, .int .i64 m] w fun r w' => ∃ k : Nat, k < m ∧ r = .returned (.int .i64 k) ∧ w = w' := by
  have k1 : -(m : Int) < n.tmod m := Int.lt_tmod_of_pos n (by omega)
  have k2 : n.tmod m < m := Int.tmod_lt_of_pos n (by omega)
  have hz : ((m : Int) == 0) = false := by simp; omega
  have hz1 : ¬ (m : Int) = -1 := by omega
  go_enter Try.func6, Try.ntmps6
  go_wp2
  · go_ret
    exact ⟨(n.tmod m + m).toNat, by omega, ret_int (by omega), rfl⟩
  · go_ret
    exact ⟨(n.tmod m).toNat, by omega, ret_int (by omega), rfl⟩

set_option maxHeartbeats 400000 in
theorem hash_any (S : ByteArray) (s : Bs) (w : World) (hS : S = bstr s) (hm : S.size ≤ maxLen) : Calls Try.prog 10 #[.string S] w fun e w' => e = .returned (.int .u32 (gnH s : Nat)) ∧ w = w' := by
  unfold maxLen at hm
  have HS := Lib.hid hS
  have HZ := Lib.hid (show S.size = s.length by rw [hS, bstr_size])
  clear hS
  go_enter Try.func10, Try.ntmps10
  go_wp2
  go_loop [3, 7] (fun h i => ∃ k : Nat, k ≤ S.size ∧ i = .int .i64 k ∧ h = .int .u32 (gnH (s.take k) : Nat)) (fun _ i => S.size - (intOf i).toNat)
  case atStart => exact ⟨0, Nat.zero_le _, rfl, rfl⟩
  case round =>
    obtain ⟨k, hk, rfl, rfl⟩ := hrel
    have hlt32 := gnH_lt (s.take k)
    by_cases hlt : k < S.size
    · have ht := gnH_take s k S[k] (bstr_at HS.out k hlt)
      obtain ⟨h', hh'⟩ : ∃ h', h' = gnH (s.take (k + 1)) := ⟨_, rfl⟩
      rw [← hh'] at ht
      have HT := Lib.hid hh'
      clear hh'
      generalize gnH (s.take k) = h at hlt32 ht
      have hu := S[k].toNat_lt
      have hz : Hid (((h : Int) * 33 % 4294967296 + (S[k].toNat : Int) % 4294967296) % 4294967296 = (h' : Int)) := Lib.hid (by rw [ht]; omega)
      clear hu ht
      go_wp2
      go_round
      case rel => exact ⟨k + 1, by omega, by go_num, by rw [hz.out, HT.out]⟩
      case measure => simp [intOf]; omega
    · have e : k = s.length := by have := HZ.out; omega
      go_wp2
      go_ret
      exact ⟨rfl, rfl⟩

/-! ### Rows that a call has made -/
/-- The first k are laid. -/
def upTo (f : Nat → Nat) (k j : Nat) : Nat := if j < k then f j else 0
theorem upTo_set (kd : IntKind) (f : Nat → Nat) (k j : Nat) : (if j = k then Value.int kd (f k : Int) else ivl kd (upTo f k) j) = ivl kd (upTo f (k + 1)) j := by
  unfold ivl upTo
  by_cases e : j = k
  · subst e
    rw [if_pos rfl, if_pos (by omega)]
  · rw [if_neg e]
    by_cases h : j < k
    · rw [if_pos h, if_pos (by omega)]
    · rw [if_neg h, if_neg (by omega)]
theorem upTo_all {w : World} {g n : Nat} {t : TypeId} {kd : IntKind} {f : Nat → Nat} (h : w.rowIs g t n (ivl kd (upTo f n))) : w.rowIs g t n (ivl kd f) :=
  h.congr fun i hi => by unfold ivl upTo; rw [if_pos hi]
theorem rows_grow {w w' : World} {g n : Nat} {t : TypeId} {f : Nat → Value} (h : w.rowIs g t n f) (hg : Grow w w') : w'.rowIs g t n f := h.of_block (hg.block g h.lt)
theorem rows_below {w w' : World} {g n B : Nat} {t : TypeId} {f : Nat → Value} (h : w.rowIs g t n f) (hg : Below B w w') (hB : g < B) : w'.rowIs g t n f := h.of_block (hg.block g hB)
theorem rows_new (w : World) (t : TypeId) (kd : IntKind) (n : Nat) (f : Nat → Nat) : (w.alloc (.cells (madeCells #[.int kd 0] n) t)).rowIs w.heap.size t n (ivl kd (upTo f 0)) :=
  (World.rowIs_made w (.int kd 0) n t).congr fun i _ => by simp [ivl, upTo]
theorem Blk.c5 {w : World} {g : Nat} {t : TypeId} {a0 a1 a2 a3 a4 : Value} (h : Blk w g t #[a0, a1, a2, a3, a4]) :
    w.cell? ⟨g, 0, none⟩ = some a0 ∧ w.cell? ⟨g, 1, none⟩ = some a1 ∧ w.cell? ⟨g, 2, none⟩ = some a2 ∧ w.cell? ⟨g, 3, none⟩ = some a3 ∧ w.cell? ⟨g, 4, none⟩ = some a4 := ⟨h.at 0, h.at 1, h.at 2, h.at 3, h.at 4⟩

set_option maxHeartbeats 400000 in
theorem hashesOf_any (A : Option Addr) (n c : Nat) (L : List Bs) (w : World) (h : SS w w.heap.size A n c L) (hn : n ≤ 1000) :
    Calls Try.prog 12 #[.slice A n c] w fun e w' => ∃ g, e = .returned (.slice (some ⟨g, 0, none⟩) n n) ∧ w.heap.size ≤ g ∧ w'.rowIs g 40 n (ivl .u32 fun i => gnH (L.getD i [])) ∧ Grow w w' := by
  have HS := Lib.hid h
  have HL := Lib.hid h.len
  have hc := h.cap
  have hm := h.max
  unfold maxLen at hm
  have hmk : ∀ W : World, (Instr.makeSlice 47 (.int .i64 (n : Int)) (.int .i64 (n : Int))).run Try.prog W = .ok (.slice (some ⟨W.heap.size, 0, none⟩) n n) (W.alloc (.cells (madeCells #[.int .u32 0] n) 40)) :=
    fun W => run_make_row' 47 40 (.int .u32 0) 4 Try.underlying47 (by kernel_rfl) rfl _ _ n (by omega) (by omega) W
  obtain ⟨F, hF⟩ : ∃ F : Nat → Nat, F = fun i => gnH (L.getD i []) := ⟨_, rfl⟩
  have H0 := Lib.hid (rows_new w 40 .u32 n F)
  have HF := Lib.hid hF
  clear h hF
  go_enter Try.func12, Try.ntmps12
  go_wp2
  obtain ⟨g, hg⟩ : ∃ g, g = w.heap.size := ⟨_, rfl⟩
  rw [← hg] at H0
  have HG := Lib.hid hg
  rw [← hg]
  clear hmk
  go_loopw [11] (fun i wr => ∃ k : Nat, k ≤ n ∧ i = .int .i64 k ∧ wr.rowIs g 40 n (ivl .u32 (upTo F k)) ∧ Below g w wr) (fun i _ => n - (intOf i).toNat)
  case atStart => exact ⟨0, Nat.zero_le _, rfl, H0.out, (Below.refl _ _).alloc (by omega) _⟩
  case round =>
    obtain ⟨k, hk, rfl, hrow, hbel⟩ := hrel
    have HR := Lib.hid hrow
    have HB := Lib.hid hbel
    clear hbel hg H0
    by_cases hlt : k < n
    · have HSw := (HS.out.belowAt HB.out (by rw [HG.out]; exact Nat.le_refl _))
      obtain ⟨b, off, rfl, hb, hcell⟩ := HSw.pos (by omega)
      have q := hcell k (by rw [← HL.out]; exact hlt)
      have hs := HSw.size k
      have hfz := hrow.frozen k
      have hcl := hrow.cell hlt
      clear hcell hb hrow HSw
      obtain ⟨S, hS⟩ : ∃ S, S = bstr (L.getD k []) := ⟨_, rfl⟩
      rw [← hS] at q
      have HSs := Lib.hid hS
      have HSz : Hid (S.size ≤ maxLen) := Lib.hid (by rw [hS, bstr_size]; exact hs)
      have HX := Lib.hid (HR.out.set k (.int .u32 (F k : Int)))
      have HFk : Hid (gnH (L.getD k []) = F k) := Lib.hid (by rw [HF.out])
      clear hS hs
      go_wp2_with (go_at_call 10; refine (hash_any S _ _ HSs.out HSz.out).mono ?_; rintro e w' ⟨rfl, rfl⟩; rw [HFk.out])
      go_roundw
      case rel => exact ⟨k + 1, by omega, by go_num, HX.out.congr fun j _ => upTo_set .u32 F k j, HB.out.setCell (Nat.le_refl _) _⟩
      case measure => simp [intOf]; omega
    · have HX : Hid (wr.rowIs g 40 n (ivl .u32 F)) := by
        have e : k = n := by omega
        rw [e] at hrow
        exact Lib.hid (upTo_all hrow)
      clear hrow
      go_wp2
      go_ret
      refine ⟨g, rfl, by rw [HG.out]; exact Nat.le_refl _, by rw [← HF.out]; exact HX.out, ?_⟩
      have := HB.out
      rw [HG.out] at this
      exact this

/-! ### Buckets -/
/-- A shape as it lies in memory. -/
def shC (b f wd sh z : Nat) : Array Value := #[.int .u64 (b : Int), .int .u64 (f : Int), .int .u64 (wd : Int), .int .u64 (sh : Int), .int .u64 (z : Int)]

theorem bucket_any (b f wd sh z h : Nat) (w : World) (hb : 1 ≤ b) (h32 : h < 4294967296) : Calls Try.prog 27 #[.agg (shC b f wd sh z), .int .u32 (h : Int)] w fun e w' => e = .returned (.int .u64 (h % b : Nat)) ∧ Grow w w' := by
  have z0 : ¬ b = 0 := by omega
  have z1 : ((b : Int) == 0) = false := by simp; omega
  have z2 : ¬ (b : Int) = -1 := by omega
  have z3 : IntKind.u64.wrap (h : Int) = (h : Int) := by rw [IntKind.wrap_u64]; omega
  have z4 : Int.tmod (h : Int) (b : Int) = ((h % b : Nat) : Int) := Int.ofNat_tmod h b
  obtain ⟨x, hx⟩ : ∃ x, x = h % b := ⟨_, rfl⟩
  rw [← hx] at z4
  have HX := Lib.hid hx
  clear hx hb
  unfold shC
  go_enter Try.func27, Try.ntmps27
  go_wp2
  go_ret
  exact ⟨ret_int (by rw [HX.out]), Grow.of_alloc _ _⟩

set_option maxHeartbeats 400000 in
theorem bucketsOf_any (b f wd sh z gh n c : Nat) (H : Nat → Nat) (w : World) (hb : 1 ≤ b) (hH : ∀ i, i < n → H i < 4294967296) (hr : w.rowIs gh 40 n (ivl .u32 H)) (hn : n ≤ 1000) (hnc : n ≤ c) (hc : c ≤ maxLen) :
    Calls Try.prog 11 #[.agg (shC b f wd sh z), .slice (some ⟨gh, 0, none⟩) n c] w fun e w' => ∃ g, e = .returned (.slice (some ⟨g, 0, none⟩) n n) ∧ w.heap.size ≤ g ∧ w'.rowIs g 43 n (ivl .u64 fun i => H i % b) ∧ Grow w w' := by
  unfold maxLen at hc
  have hmk : ∀ W : World, (Instr.makeSlice 42 (.int .i64 (n : Int)) (.int .i64 (n : Int))).run Try.prog W = .ok (.slice (some ⟨W.heap.size, 0, none⟩) n n) (W.alloc (.cells (madeCells #[.int .u64 0] n) 43)) :=
    fun W => run_make_row' 42 43 (.int .u64 0) 8 Try.underlying42 (by kernel_rfl) rfl _ _ n (by omega) (by omega) W
  obtain ⟨F, hF⟩ : ∃ F : Nat → Nat, F = fun i => H i % b := ⟨_, rfl⟩
  have HF := Lib.hid hF
  have HH := Lib.hid hH
  have HB := Lib.hid hb
  have HRH := Lib.hid hr
  have hgl := hr.lt
  unfold shC
  clear hF hH hb hr
  go_enter Try.func11, Try.ntmps11
  go_wp2
  generalize hW : World.alloc _ _ = W0
  obtain ⟨G, hG⟩ : ∃ G, G = w.heap.size := ⟨_, rfl⟩
  have HG := Lib.hid hG
  have HBox : Hid (Blk W0 G 45 #[.int .u64 (b : Int), .int .u64 (f : Int), .int .u64 (wd : Int), .int .u64 (sh : Int), .int .u64 (z : Int)]) := Lib.hid (by rw [← hW, hG]; exact (Blk.new _ _ _).alloc _)
  have HRow : Hid (W0.rowIs (G + 1) 43 n (ivl .u64 (upTo F 0))) := Lib.hid (by
    have := rows_new (w.alloc (.cells #[.int .u64 (b : Int), .int .u64 (f : Int), .int .u64 (wd : Int), .int .u64 (sh : Int), .int .u64 (z : Int)] 45)) 43 .u64 n F
    rw [hW] at this
    simpa [hG] using this)
  have HGr : Hid (Below G w W0) := Lib.hid (by rw [← hW, hG]; exact (Grow.of_alloc _ _).trans (Grow.of_alloc _ _))
  have HSz : Hid (G + 1 < W0.heap.size) := Lib.hid (by rw [← hW, hG]; simp)
  rw [← hG] at hgl ⊢
  clear hmk hW hG
  go_loopw [13] (fun i wr => ∃ k : Nat, k ≤ n ∧ i = .int .i64 k ∧ wr.rowIs (G + 1) 43 n (ivl .u64 (upTo F k)) ∧ Blk wr G 45 #[.int .u64 (b : Int), .int .u64 (f : Int), .int .u64 (wd : Int), .int .u64 (sh : Int), .int .u64 (z : Int)] ∧ Below G w wr ∧ G + 1 < wr.heap.size) (fun i _ => n - (intOf i).toNat)
  case atStart => exact ⟨0, Nat.zero_le _, rfl, HRow.out, HBox.out, HGr.out, HSz.out⟩
  case round =>
    obtain ⟨k, hk, rfl, hrow, hbox, hbel, hsz⟩ := hrel
    have HR := Lib.hid hrow
    have HX := Lib.hid hbox
    have HL := Lib.hid hbel
    have HZ := Lib.hid hsz
    clear HRow HBox HGr HSz hrow hbox hbel hsz
    by_cases hlt : k < n
    · have q : wr.cell? ⟨gh, k, none⟩ = some (.int .u32 (H k : Int)) := (rows_below HRH.out HL.out hgl).cell hlt
      obtain ⟨c0, c1, c2, c3, c4⟩ := HX.out.c5
      have HC := Lib.hid (bucket_any b f wd sh z (H k) · HB.out (HH.out k hlt))
      have HFk : Hid (H k % b = F k) := Lib.hid (by rw [HF.out])
      rw [HFk.out] at HC
      go_wp2_with fail
      refine (HC.out _).mono ?_
      rintro e w' ⟨rfl, hg⟩
      have hrow := rows_grow HR.out hg
      have c5 := hrow.cell hlt
      have f5 := hrow.frozen k
      have HR2 := Lib.hid (hrow.set k (.int .u64 (F k : Int)))
      have HX2 := Lib.hid ((HX.out.grow hg).cellset (a := ⟨G + 1, k, none⟩) (by simp) (.int .u64 (F k : Int)))
      have HL2 := Lib.hid ((HL.out.trans (hg.mono (by have := HZ.out; omega))).setCell (p := ⟨G + 1, k, none⟩) (by show G ≤ G + 1; omega) (.int .u64 (F k : Int)))
      have HZ2 := Lib.hid (Nat.lt_of_lt_of_le HZ.out hg.size)
      clear hrow hg c0 c1 c2 c3 c4 q
      go_wp2
      go_roundw
      case rel => exact ⟨k + 1, by omega, by go_num, HR2.out.congr fun j _ => upTo_set .u64 F k j, HX2.out, HL2.out, by simpa using HZ2.out⟩
      case measure => simp [intOf]; omega
    · have e : k = n := by omega
      subst e
      have HX := Lib.hid (upTo_all HR.out)
      go_wp2
      go_ret
      refine ⟨G + 1, rfl, by rw [← HG.out]; omega, by rw [← HF.out]; exact HX.out, ?_⟩
      have := HL.out
      rw [HG.out] at this
      exact this

/-! ### Whether a table may be -/
theorem within_yes (n a b : Int) (w : World) (h1 : a ≤ n) (h2 : n ≤ b) : Calls Try.prog 30 #[.int .i64 n, .int .i64 a, .int .i64 b] w fun e w' => e = .returned (.bool true) ∧ w = w' := by
  go_enter Try.func30, Try.ntmps30
  go_wp2
  go_ret
  exact ⟨rfl, rfl⟩
theorem mayBe_yes (f b wd sh : Nat) (w : World) (f1 : 1 ≤ f) (f2 : f ≤ 65536) (b1 : 1 ≤ b) (b2 : b ≤ 1024) (w1 : 1 ≤ wd) (w2 : wd ≤ 1024) (s2 : sh ≤ 31) :
    Calls Try.prog 16 #[.agg #[.int .i64 (f : Int), .int .i64 (b : Int), .int .i64 (wd : Int), .int .i64 (sh : Int)]] w fun e w' => e = .returned (.bool true) ∧ Grow w w' := by
  have H1 := Lib.hid (fun W => within_yes f 1 65536 W (by omega) (by omega))
  have H2 := Lib.hid (fun W => within_yes b 1 1024 W (by omega) (by omega))
  have H3 := Lib.hid (fun W => within_yes wd 1 1024 W (by omega) (by omega))
  have H4 := Lib.hid (fun W => within_yes sh 0 31 W (by omega) (by omega))
  clear f1 f2 b1 b2 w1 w2 s2
  go_enter Try.func16, Try.ntmps16
  go_wp2_with fail
  refine (H1.out _).mono ?_
  rintro e w' ⟨rfl, rfl⟩
  go_wp2_with fail
  refine (H2.out _).mono ?_
  rintro e w' ⟨rfl, rfl⟩
  go_wp2_with fail
  refine (H3.out _).mono ?_
  rintro e w' ⟨rfl, rfl⟩
  go_wp2_with fail
  refine (H4.out _).mono ?_
  rintro e w' ⟨rfl, rfl⟩
  go_wp2
  go_ret
  exact ⟨rfl, Grow.of_alloc _ _⟩
theorem wordSize_any (wide big : Bool) (w : World) : Calls Try.prog 17 #[.agg #[.bool wide, .bool big]] w fun e w' => e = .returned (.int .u64 ((if wide then 8 else 4 : Nat) : Int)) ∧ Grow w w' := by
  cases wide
  · go_enter Try.func17, Try.ntmps17
    go_wp2
    go_ret
    exact ⟨rfl, Grow.of_alloc _ _⟩
  · go_enter Try.func17, Try.ntmps17
    go_wp2
    go_ret
    exact ⟨rfl, Grow.of_alloc _ _⟩

/-- At numbers that rise. -/
theorem isSorted_yes (g n c : Nat) (f : Nat → Nat) (w : World) (hr : w.rowIs g 43 n (ivl .u64 f)) (hn : n ≤ 1000) (hup : ∀ i, i + 1 < n → f i ≤ f (i + 1)) :
    Calls Try.prog 18 #[.slice (some ⟨g, 0, none⟩) n c] w fun e w' => e = .returned (.bool true) ∧ Grow w w' := by
  have HR := Lib.hid hr
  have HU := Lib.hid hup
  clear hr hup
  have s1 : IntKind.i64.wrap ((n : Int) - 1) = (n : Int) - 1 := by rw [IntKind.wrap_i64]; omega
  go_enter Try.func18, Try.ntmps18
  go_wp2
  clear s1
  go_loopw [3] (fun i wr => ∃ (k : Int) (m : Nat), k < n ∧ i = .int .i64 k ∧ wr = w.drewN m) (fun i _ => (intOf i).toNat)
  case atStart => exact ⟨(n : Int) - 1, 0, by omega, rfl, rfl⟩
  case round =>
    obtain ⟨k, m, hk, rfl, hw⟩ := hrel
    by_cases hlt : 0 < k
    · obtain ⟨q1, rfl⟩ : ∃ q1 : Nat, k = (q1 : Int) := ⟨k.toNat, by omega⟩
      obtain ⟨q, hq⟩ : ∃ q, q1 = q + 1 := ⟨q1 - 1, by omega⟩
      have c1 : (w.drewN m).cell? ⟨g, q, none⟩ = some (.int .u64 (f q : Int)) := HR.out.cell (by omega)
      have c2 : (w.drewN m).cell? ⟨g, q1, none⟩ = some (.int .u64 (f q1 : Int)) := HR.out.cell (by omega)
      have HF : Hid (decide (f q1 < f q) = false) := Lib.hid (decide_eq_false (by have := HU.out q (by omega); rw [hq]; omega))
      rw [← hw] at c1 c2
      generalize f q1 = x at c2 HF
      generalize f q = y at c1 HF
      have e2 : IntKind.i64.wrap ((q1 : Int) - 1) = (q : Int) := by rw [IntKind.wrap_i64]; omega
      have p3 : (q : Int) < (n : Int) := by omega
      have HW := Lib.hid hw
      have HQ := Lib.hid hq
      have HP := Lib.hid p3
      clear hw hq
      go_wp2_with fail
      go_quiet ((go_at_call 31; exact Calls.quiet_of_same ((less_any x y _).mono fun _ _ hh => ⟨hh.1, hh.2.symm⟩)))
      rw [HF.out]
      go_wp2
      go_roundw
      case rel => exact ⟨(q : Int), m + nq, HP.out, rfl, by rw [HW.out, World.drewN_drewN]⟩
      case measure => have := HQ.out; simp [intOf]; omega
    · have hd : decide (0 < k) = false := decide_eq_false hlt
      clear hlt
      go_wp2
      go_ret
      exact ⟨rfl, Grow.of_drewN _ _⟩
end Go.Proofs.Ythdgkhigekogiaa
