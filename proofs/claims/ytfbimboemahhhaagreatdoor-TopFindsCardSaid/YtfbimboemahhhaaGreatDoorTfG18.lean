/-
  Several texts in one: The contracts of gnu; The contracts of gnu.
-/
import Derived.Test.YtfbimboemahhhaaGreatDoorTfG14
import Derived.Test.YtfbimboemahhhaaGreatDoorTfG15
import Derived.Test.YtfbimboemahhhaaGreatDoorTfG17
import Derived.Test.YtfbimboemahhhaaGreatDoorTfG4
import Derived.Laws.Bits64b
namespace Go.Proofs.YtfbimboemahhhaaGreatDoor
open Go.Lib (hid)
open Go.RowKit
set_option maxHeartbeats 400000 in
theorem hash_any (S : ByteArray) (s : Bs) (w : World) (hS : S = bstr s) (hm : S.size ≤ maxLen) : Calls Tryz.prog 52 #[.string S] w fun e w' => e = .returned (.int .u32 (gnH s : Nat)) ∧ w = w' := by
 unfold maxLen at hm
 have HS := hid hS
 have HZ := hid (show S.size = s.length by rw [hS, bstr_size])
 clear hS
 go_enter Tryz.func52, Tryz.ntmps52
 go_wp2
 go_loop [3, 7] (fun h i => ∃ k : Nat, k ≤ S.size ∧ i = .int .i64 k ∧ h = .int .u32 (gnH (s.take k) : Nat)) (fun _ i => S.size - (intOf i).toNat)
 case atStart => exact ⟨0, Nat.zero_le _, rfl, rfl⟩
 case round =>
  obtain ⟨k, hk, rfl, rfl⟩ := hrel
  have hlt32 := gnH_lt (s.take k)
  by_cases hlt : k < S.size
  ·have ht := gnH_take s k S[k] (bstr_at HS.out k hlt)
   obtain ⟨h', hh'⟩ : ∃ h', h' = gnH (s.take (k + 1)) := ⟨_, rfl⟩
   rw [← hh'] at ht
   have HT := hid hh'
   clear hh'
   generalize gnH (s.take k) = h at hlt32 ht
   have hu := S[k].toNat_lt
   have hz : Hid (((h : Int) * 33 % 4294967296 + (S[k].toNat : Int) % 4294967296) % 4294967296 = (h' : Int)) := hid (by rw [ht]; omega)
   clear hu ht
   go_wp2
   go_round
   case rel => exact ⟨k + 1, by omega, by go_num, by rw [hz.out, HT.out]⟩
   case measure => simp [intOf]; omega
  ·have e : k = s.length := by have := HZ.out; omega
   go_wp2
   go_ret
   exact ⟨rfl, rfl⟩
/-! ### Rows that a call has made -/
def upToB (f : Nat → Nat) (k j : Nat) : Nat := if j < k then f j else 0
theorem upTo_setB (kd : IntKind) (f : Nat → Nat) (k j : Nat) : (if j = k then Value.int kd (f k : Int) else ivlB kd (upToB f k) j) = ivlB kd (upToB f (k + 1)) j := by
 unfold ivlB upToB
 by_cases e : j = k
 ·subst e
  rw [if_pos rfl, if_pos (by omega)]
 ·rw [if_neg e]
  by_cases h : j < k
  ·rw [if_pos h, if_pos (by omega)]
  ·rw [if_neg h, if_neg (by omega)]
theorem upTo_allB {w : World} {g n : Nat} {t : TypeId} {kd : IntKind} {f : Nat → Nat} (h : w.rowIs g t n (ivlB kd (upToB f n))) : w.rowIs g t n (ivlB kd f) :=
 h.congr fun i hi => by unfold ivlB upToB; rw [if_pos hi]
theorem rows_grow {w w' : World} {g n : Nat} {t : TypeId} {f : Nat → Value} (h : w.rowIs g t n f) (hg : Grow w w') : w'.rowIs g t n f := h.of_block (hg.block g h.lt)
theorem rows_below {w w' : World} {g n B : Nat} {t : TypeId} {f : Nat → Value} (h : w.rowIs g t n f) (hg : Below B w w') (hB : g < B) : w'.rowIs g t n f := h.of_block (hg.block g hB)
theorem rows_newB (w : World) (t : TypeId) (kd : IntKind) (n : Nat) (f : Nat → Nat) : (w.alloc (.cells (madeCells #[.int kd 0] n) t)).rowIs w.heap.size t n (ivlB kd (upToB f 0)) :=
 (World.rowIs_made w (.int kd 0) n t).congr fun i _ => by simp [ivlB, upToB]
theorem Blk.c5 {w : World} {g : Nat} {t : TypeId} {a0 a1 a2 a3 a4 : Value} (h : Blk w g t #[a0, a1, a2, a3, a4]) :
  w.cell? ⟨g, 0, none⟩ = some a0 ∧ w.cell? ⟨g, 1, none⟩ = some a1 ∧ w.cell? ⟨g, 2, none⟩ = some a2 ∧ w.cell? ⟨g, 3, none⟩ = some a3 ∧ w.cell? ⟨g, 4, none⟩ = some a4 := ⟨h.at 0, h.at 1, h.at 2, h.at 3, h.at 4⟩
set_option maxHeartbeats 400000 in
theorem hashesOf_any (A : Option Addr) (n c : Nat) (L : List Bs) (w : World) (h : SS w w.heap.size A n c L) (hn : n ≤ 1000) :
  Calls Tryz.prog 20 #[.slice A n c] w fun e w' => ∃ g, e = .returned (.slice (some ⟨g, 0, none⟩) n n) ∧ w.heap.size ≤ g ∧ w'.rowIs g 36 n (ivlB .u32 fun i => gnH (L.getD i [])) ∧ Grow w w' := by
 have HS := hid h
 have HL := hid h.len
 have hc := h.cap
 have hm := h.max
 unfold maxLen at hm
 have hmk : ∀ W : World, (Instr.makeSlice 53 (.int .i64 (n : Int)) (.int .i64 (n : Int))).run Tryz.prog W = .ok (.slice (some ⟨W.heap.size, 0, none⟩) n n) (W.alloc (.cells (madeCells #[.int .u32 0] n) 36)) :=
  fun W => run_make_row' 53 36 (.int .u32 0) 4 Tryz.underlying53 (by kernel_rfl) rfl _ _ n (by omega) (by omega) W
 obtain ⟨F, hF⟩ : ∃ F : Nat → Nat, F = fun i => gnH (L.getD i []) := ⟨_, rfl⟩
 have H0 := hid (rows_newB w 36 .u32 n F)
 have HF := hid hF
 clear h hF
 go_enter Tryz.func20, Tryz.ntmps20
 go_wp2
 obtain ⟨g, hg⟩ : ∃ g, g = w.heap.size := ⟨_, rfl⟩
 rw [← hg] at H0
 have HG := hid hg
 rw [← hg]
 clear hmk
 go_loopw [11] (fun i wr => ∃ k : Nat, k ≤ n ∧ i = .int .i64 k ∧ wr.rowIs g 36 n (ivlB .u32 (upToB F k)) ∧ Below g w wr) (fun i _ => n - (intOf i).toNat)
 case atStart => exact ⟨0, Nat.zero_le _, rfl, H0.out, (Below.refl _ _).alloc (by omega) _⟩
 case round =>
  obtain ⟨k, hk, rfl, hrow, hbel⟩ := hrel
  have HR := hid hrow
  have HB := hid hbel
  clear hbel hg H0
  by_cases hlt : k < n
  ·have HSw := (HS.out.belowAt HB.out (by rw [HG.out]; exact Nat.le_refl _))
   obtain ⟨b, off, rfl, hb, hcell⟩ := HSw.pos (by omega)
   have q := hcell k (by rw [← HL.out]; exact hlt)
   have hs := HSw.size k
   have hfz := hrow.frozen k
   have hcl := hrow.cell hlt
   clear hcell hb hrow HSw
   obtain ⟨S, hS⟩ : ∃ S, S = bstr (L.getD k []) := ⟨_, rfl⟩
   rw [← hS] at q
   have HSs := hid hS
   have HSz : Hid (S.size ≤ maxLen) := hid (by rw [hS, bstr_size]; exact hs)
   have HX := hid (HR.out.set k (.int .u32 (F k : Int)))
   have HFk : Hid (gnH (L.getD k []) = F k) := hid (by rw [HF.out])
   clear hS hs
   go_wp2_with (go_at_call 52; refine (hash_any S _ _ HSs.out HSz.out).mono ?_; rintro e w' ⟨rfl, rfl⟩; rw [HFk.out])
   go_roundw
   case rel => exact ⟨k + 1, by omega, by go_num, HX.out.congr fun j _ => upTo_setB .u32 F k j, HB.out.setCell (Nat.le_refl _) _⟩
   case measure => simp [intOf]; omega
  ·have HX : Hid (wr.rowIs g 36 n (ivlB .u32 F)) := by
    have e : k = n := by omega
    rw [e] at hrow
    exact hid (upTo_allB hrow)
   clear hrow
   go_wp2
   go_ret
   refine ⟨g, rfl, by rw [HG.out]; exact Nat.le_refl _, by rw [← HF.out]; exact HX.out, ?_⟩
   have := HB.out
   rw [HG.out] at this
   exact this
/-! ### Buckets -/
def shC (b f wd sh z : Nat) : Array Value := #[.int .u64 (b : Int), .int .u64 (f : Int), .int .u64 (wd : Int), .int .u64 (sh : Int), .int .u64 (z : Int)]
theorem bucket_any (b f wd sh z h : Nat) (w : World) (hb : 1 ≤ b) (h32 : h < 4294967296) : Calls Tryz.prog 63 #[.agg (shC b f wd sh z), .int .u32 (h : Int)] w fun e w' => e = .returned (.int .u64 (h % b : Nat)) ∧ Grow w w' := by
 have z0 : ¬ b = 0 := by omega
 have z1 : ((b : Int) == 0) = false := by simp; omega
 have z2 : ¬ (b : Int) = -1 := by omega
 have z3 : IntKind.u64.wrap (h : Int) = (h : Int) := by rw [IntKind.wrap_u64]; omega
 have z4 : Int.tmod (h : Int) (b : Int) = ((h % b : Nat) : Int) := Int.ofNat_tmod h b
 obtain ⟨x, hx⟩ : ∃ x, x = h % b := ⟨_, rfl⟩
 rw [← hx] at z4
 have HX := hid hx
 clear hx hb
 unfold shC
 go_enter Tryz.func63, Tryz.ntmps63
 go_wp2
 go_ret
 exact ⟨ret_int (by rw [HX.out]), Grow.of_alloc _ _⟩
set_option maxHeartbeats 400000 in
theorem bucketsOf_any (b f wd sh z gh n c : Nat) (H : Nat → Nat) (w : World) (hb : 1 ≤ b) (hH : ∀ i, i < n → H i < 4294967296) (hr : w.rowIs gh 36 n (ivlB .u32 H)) (hn : n ≤ 1000) (hnc : n ≤ c) (hc : c ≤ maxLen) :
  Calls Tryz.prog 19 #[.agg (shC b f wd sh z), .slice (some ⟨gh, 0, none⟩) n c] w fun e w' => ∃ g, e = .returned (.slice (some ⟨g, 0, none⟩) n n) ∧ w.heap.size ≤ g ∧ w'.rowIs g 37 n (ivlB .u64 fun i => H i % b) ∧ Grow w w' := by
 unfold maxLen at hc
 have hmk : ∀ W : World, (Instr.makeSlice 30 (.int .i64 (n : Int)) (.int .i64 (n : Int))).run Tryz.prog W = .ok (.slice (some ⟨W.heap.size, 0, none⟩) n n) (W.alloc (.cells (madeCells #[.int .u64 0] n) 37)) :=
  fun W => run_make_row' 30 37 (.int .u64 0) 8 Tryz.underlying30 (by kernel_rfl) rfl _ _ n (by omega) (by omega) W
 obtain ⟨F, hF⟩ : ∃ F : Nat → Nat, F = fun i => H i % b := ⟨_, rfl⟩
 have HF := hid hF
 have HH := hid hH
 have HB := hid hb
 have HRH := hid hr
 have hgl := hr.lt
 unfold shC
 clear hF hH hb hr
 go_enter Tryz.func19, Tryz.ntmps19
 go_wp2
 generalize hW : World.alloc _ _ = W0
 obtain ⟨G, hG⟩ : ∃ G, G = w.heap.size := ⟨_, rfl⟩
 have HG := hid hG
 have HBox : Hid (Blk W0 G 80 #[.int .u64 (b : Int), .int .u64 (f : Int), .int .u64 (wd : Int), .int .u64 (sh : Int), .int .u64 (z : Int)]) := hid (by rw [← hW, hG]; exact (Blk.new _ _ _).alloc _)
 have HRow : Hid (W0.rowIs (G + 1) 37 n (ivlB .u64 (upToB F 0))) := hid (by
  have := rows_newB (w.alloc (.cells #[.int .u64 (b : Int), .int .u64 (f : Int), .int .u64 (wd : Int), .int .u64 (sh : Int), .int .u64 (z : Int)] 80)) 37 .u64 n F
  rw [hW] at this
  simpa [hG] using this)
 have HGr : Hid (Below G w W0) := hid (by rw [← hW, hG]; exact (Grow.of_alloc _ _).trans (Grow.of_alloc _ _))
 have HSz : Hid (G + 1 < W0.heap.size) := hid (by rw [← hW, hG]; simp)
 rw [← hG] at hgl ⊢
 clear hmk hW hG
 go_loopw [13] (fun i wr => ∃ k : Nat, k ≤ n ∧ i = .int .i64 k ∧ wr.rowIs (G + 1) 37 n (ivlB .u64 (upToB F k)) ∧ Blk wr G 80 #[.int .u64 (b : Int), .int .u64 (f : Int), .int .u64 (wd : Int), .int .u64 (sh : Int), .int .u64 (z : Int)] ∧ Below G w wr ∧ G + 1 < wr.heap.size) (fun i _ => n - (intOf i).toNat)
 case atStart => exact ⟨0, Nat.zero_le _, rfl, HRow.out, HBox.out, HGr.out, HSz.out⟩
 case round =>
  obtain ⟨k, hk, rfl, hrow, hbox, hbel, hsz⟩ := hrel
  have HR := hid hrow
  have HX := hid hbox
  have HL := hid hbel
  have HZ := hid hsz
  clear HRow HBox HGr HSz hrow hbox hbel hsz
  by_cases hlt : k < n
  ·have q : wr.cell? ⟨gh, k, none⟩ = some (.int .u32 (H k : Int)) := (rows_below HRH.out HL.out hgl).cell hlt
   obtain ⟨c0, c1, c2, c3, c4⟩ := HX.out.c5
   have HC := hid (bucket_any b f wd sh z (H k) · HB.out (HH.out k hlt))
   have HFk : Hid (H k % b = F k) := hid (by rw [HF.out])
   rw [HFk.out] at HC
   go_wp2_with fail
   refine (HC.out _).mono ?_
   rintro e w' ⟨rfl, hg⟩
   have hrow := rows_grow HR.out hg
   have c5 := hrow.cell hlt
   have f5 := hrow.frozen k
   have HR2 := hid (hrow.set k (.int .u64 (F k : Int)))
   have HX2 := hid ((HX.out.grow hg).cellset (a := ⟨G + 1, k, none⟩) (by simp) (.int .u64 (F k : Int)))
   have HL2 := hid ((HL.out.trans (hg.mono (by have := HZ.out; omega))).setCell (p := ⟨G + 1, k, none⟩) (by show G ≤ G + 1; omega) (.int .u64 (F k : Int)))
   have HZ2 := hid (Nat.lt_of_lt_of_le HZ.out hg.size)
   clear hrow hg c0 c1 c2 c3 c4 q
   go_wp2
   go_roundw
   case rel => exact ⟨k + 1, by omega, by go_num, HR2.out.congr fun j _ => upTo_setB .u64 F k j, HX2.out, HL2.out, by simpa using HZ2.out⟩
   case measure => simp [intOf]; omega
  ·have e : k = n := by omega
   subst e
   have HX := hid (upTo_allB HR.out)
   go_wp2
   go_ret
   refine ⟨G + 1, rfl, by rw [← HG.out]; omega, by rw [← HF.out]; exact HX.out, ?_⟩
   have := HL.out
   rw [HG.out] at this
   exact this
/-! ### Whether a table may be -/
theorem within_yes (n a b : Int) (w : World) (h1 : a ≤ n) (h2 : n ≤ b) : Calls Tryz.prog 67 #[.int .i64 n, .int .i64 a, .int .i64 b] w fun e w' => e = .returned (.bool true) ∧ w = w' := by
 go_enter Tryz.func67, Tryz.ntmps67
 go_wp2
 go_ret
 exact ⟨rfl, rfl⟩
theorem mayBe_yes (f b wd sh : Nat) (w : World) (f1 : 1 ≤ f) (f2 : f ≤ 65536) (b1 : 1 ≤ b) (b2 : b ≤ 1024) (w1 : 1 ≤ wd) (w2 : wd ≤ 1024) (s2 : sh ≤ 31) :
  Calls Tryz.prog 25 #[.agg #[.int .i64 (f : Int), .int .i64 (b : Int), .int .i64 (wd : Int), .int .i64 (sh : Int)]] w fun e w' => e = .returned (.bool true) ∧ Grow w w' := by
 have H1 := hid (fun W => within_yes f 1 65536 W (by omega) (by omega))
 have H2 := hid (fun W => within_yes b 1 1024 W (by omega) (by omega))
 have H3 := hid (fun W => within_yes wd 1 1024 W (by omega) (by omega))
 have H4 := hid (fun W => within_yes sh 0 31 W (by omega) (by omega))
 clear f1 f2 b1 b2 w1 w2 s2
 go_enter Tryz.func25, Tryz.ntmps25
 go_wp2_with fail
 refine (H1.out _).mono ?_
 rintro e w' ⟨rfl, rfl⟩
 go_wp2_with fail
 refine (H2.out _).mono ?_
 rintro e w' ⟨rfl, rfl⟩
 go_wp2_with fail
 refine (H3.out _).mono ?_
 rintro e w' ⟨rfl, rfl⟩
 go_wp2_with fail
 refine (H4.out _).mono ?_
 rintro e w' ⟨rfl, rfl⟩
 go_wp2
 go_ret
 exact ⟨rfl, Grow.of_alloc _ _⟩
theorem wordSize_any (wide big : Bool) (w : World) : Calls Tryz.prog 26 #[.agg #[.bool wide, .bool big]] w fun e w' => e = .returned (.int .u64 ((if wide then 8 else 4 : Nat) : Int)) ∧ Grow w w' := by
 cases wide
 ·go_enter Tryz.func26, Tryz.ntmps26
  go_wp2
  go_ret
  exact ⟨rfl, Grow.of_alloc _ _⟩
 ·go_enter Tryz.func26, Tryz.ntmps26
  go_wp2
  go_ret
  exact ⟨rfl, Grow.of_alloc _ _⟩
theorem isSorted_yes (g n c : Nat) (f : Nat → Nat) (w : World) (hr : w.rowIs g 37 n (ivlB .u64 f)) (hn : n ≤ 1000) (hup : ∀ i, i + 1 < n → f i ≤ f (i + 1)) :
  Calls Tryz.prog 27 #[.slice (some ⟨g, 0, none⟩) n c] w fun e w' => e = .returned (.bool true) ∧ Grow w w' := by
 have HR := hid hr
 have HU := hid hup
 clear hr hup
 have s1 : IntKind.i64.wrap ((n : Int) - 1) = (n : Int) - 1 := by rw [IntKind.wrap_i64]; omega
 go_enter Tryz.func27, Tryz.ntmps27
 go_wp2
 clear s1
 go_loopw [3] (fun i wr => ∃ (k : Int) (m : Nat), k < n ∧ i = .int .i64 k ∧ wr = w.drewN m) (fun i _ => (intOf i).toNat)
 case atStart => exact ⟨(n : Int) - 1, 0, by omega, rfl, rfl⟩
 case round =>
  obtain ⟨k, m, hk, rfl, hw⟩ := hrel
  by_cases hlt : 0 < k
  ·obtain ⟨q1, rfl⟩ : ∃ q1 : Nat, k = (q1 : Int) := ⟨k.toNat, by omega⟩
   obtain ⟨q, hq⟩ : ∃ q, q1 = q + 1 := ⟨q1 - 1, by omega⟩
   have c1 : (w.drewN m).cell? ⟨g, q, none⟩ = some (.int .u64 (f q : Int)) := HR.out.cell (by omega)
   have c2 : (w.drewN m).cell? ⟨g, q1, none⟩ = some (.int .u64 (f q1 : Int)) := HR.out.cell (by omega)
   have HF : Hid (decide (f q1 < f q) = false) := hid (decide_eq_false (by have := HU.out q (by omega); rw [hq]; omega))
   rw [← hw] at c1 c2
   generalize f q1 = x at c2 HF
   generalize f q = y at c1 HF
   have e2 : IntKind.i64.wrap ((q1 : Int) - 1) = (q : Int) := by rw [IntKind.wrap_i64]; omega
   have p3 : (q : Int) < (n : Int) := by omega
   have HW := hid hw
   have HQ := hid hq
   have HP := hid p3
   clear hw hq
   go_wp2_with fail
   go_quiet ((go_at_call 68; exact Calls.quiet_of_same ((less_any x y _).mono fun _ _ hh => ⟨hh.1, hh.2.symm⟩)))
   rw [HF.out]
   go_wp2
   go_roundw
   case rel => exact ⟨(q : Int), m + nq, HP.out, rfl, by rw [HW.out, World.drewN_drewN]⟩
   case measure => have := HQ.out; simp [intOf]; omega
  ·have hd : decide (0 < k) = false := decide_eq_false hlt
   clear hlt
   go_wp2
   go_ret
   exact ⟨rfl, Grow.of_drewN _ _⟩
theorem one_shl (r : Nat) (h : r < 64) : Op.shift .shl .u64 1 .u64 (r : Int) = pure (.int .u64 ((2 ^ r : Nat) : Int)) := by
 have h2 : 2 ^ r < 2 ^ 64 := Nat.pow_lt_pow_right (by decide) h
 rw [shift_shl_any _ _ _ _ (by omega), show min ((r : Int)).toNat IntKind.u64.bits = r by simp [IntKind.bits]; omega, IntKind.wrap_u64]
 congr 2
 have e : (1 : Int) * 2 ^ r = ((2 ^ r : Nat) : Int) := by simp
 rw [e]
 generalize 2 ^ r = p at h2 ⊢
 omega
theorem nat_shr (x r : Nat) (h : r < 64) : Op.shift .shr .u64 (x : Int) .u64 (r : Int) = pure (.int .u64 ((x / 2 ^ r : Nat) : Int)) := by
 rw [shift_shr_any _ _ _ _ (by omega), show min ((r : Int)).toNat IntKind.u64.bits = r by simp [IntKind.bits]; omega]
 congr 2
set_option maxHeartbeats 400000 in
theorem bitsOf_any (b f wd sh z h : Nat) (w : World) (hz : z = 4 ∨ z = 8) (hw : 1 ≤ wd) (hs : sh ≤ 31) (h32 : h < 4294967296) :
  Calls Tryz.prog 69 #[.agg (shC b f wd sh z), .int .u32 (h : Int)] w fun e w' => e = .returned (.tuple #[.int .u64 (h / (8 * z) % wd : Nat), .int .u64 ((2 ^ (h % (8 * z)) ||| 2 ^ (h / 2 ^ sh % (8 * z)) : Nat) : Int)]) ∧ Grow w w' := by
 obtain ⟨W, hW⟩ : ∃ W, W = 8 * z := ⟨_, rfl⟩
 have h0 : ¬ W = 0 := by omega
 have h1 : ((W : Int) == 0) = false := by simp; omega
 have h2 : ¬ (W : Int) = -1 := by omega
 have k0 : ¬ wd = 0 := by omega
 have k1 : ((wd : Int) == 0) = false := by simp; omega
 have k2 : ¬ (wd : Int) = -1 := by omega
 have e1 : IntKind.u64.wrap (h : Int) = (h : Int) := by rw [IntKind.wrap_u64]; omega
 have e2 : IntKind.u64.wrap (8 * (z : Int)) = (W : Int) := by rw [IntKind.wrap_u64]; omega
 obtain ⟨q, hq⟩ : ∃ q, q = h / W := ⟨_, rfl⟩
 have e3 : Int.tdiv (h : Int) (W : Int) = (q : Int) := by rw [hq]; exact Int.ofNat_tdiv h W
 have hq2 : q < 4294967296 := by rw [hq]; exact Nat.lt_of_le_of_lt (Nat.div_le_self _ _) h32
 have e4 : IntKind.u64.wrap (q : Int) = (q : Int) := by rw [IntKind.wrap_u64]; omega
 obtain ⟨a, ha⟩ : ∃ a, a = q % wd := ⟨_, rfl⟩
 have e5 : Int.tmod (q : Int) (wd : Int) = (a : Int) := by rw [ha]; exact Int.ofNat_tmod q wd
 obtain ⟨r1, hr1⟩ : ∃ r, r = h % W := ⟨_, rfl⟩
 have e6 : Int.tmod (h : Int) (W : Int) = (r1 : Int) := by rw [hr1]; exact Int.ofNat_tmod h W
 have l1 : r1 < 64 := by rw [hr1]; have := Nat.mod_lt h (show 0 < W by omega); omega
 obtain ⟨y, hy⟩ : ∃ y, y = h / 2 ^ sh := ⟨_, rfl⟩
 have e7 := nat_shr h sh (by omega)
 rw [← hy] at e7
 obtain ⟨r2, hr2⟩ : ∃ r, r = y % W := ⟨_, rfl⟩
 have ey : (h : Int) / 2 ^ sh = (y : Int) := by rw [hy]; simp
 have e8 : Int.tmod ((h : Int) / 2 ^ sh) (W : Int) = (r2 : Int) := by rw [ey, hr2]; exact Int.ofNat_tmod y W
 have l2 : r2 < 64 := by rw [hr2]; have := Nat.mod_lt y (show 0 < W by omega); omega
 have e9 := one_shl r1 l1
 have e10 := one_shl r2 l2
 have b1 : 2 ^ r1 < 2 ^ 64 := Nat.pow_lt_pow_right (by decide) l1
 have b2 : 2 ^ r2 < 2 ^ 64 := Nat.pow_lt_pow_right (by decide) l2
 have e11 := u64_or_nat (2 ^ r1) (2 ^ r2) b1 b2
 have ho : h / (8 * z) % wd = a ∧ (2 ^ (h % (8 * z)) ||| 2 ^ (h / 2 ^ sh % (8 * z))) = (2 ^ r1 ||| 2 ^ r2) := by
  rw [← hW, ← hq, ← ha, ← hr1, ← hy, ← hr2]
  exact ⟨rfl, rfl⟩
 rw [ho.1, ho.2]
 generalize 2 ^ r1 ||| 2 ^ r2 = o at e11 ⊢
 generalize 2 ^ r1 = p1 at e9 e11
 generalize 2 ^ r2 = p2 at e10 e11
 clear ho ey b1 b2 l1 l2 hr1 hr2 hy ha hq hq2 hW hz hw
 unfold shC
 go_enter Tryz.func69, Tryz.ntmps69
 go_wp2_with fail
 go_quiet (fail)
 go_wp2_with fail
 go_quiet (fail)
 go_wp2
 go_ret2
 exact ⟨rfl, ((Grow.of_alloc _ _).trans (Grow.of_drewN _ _)).trans (Grow.of_drewN _ _)⟩
/-! ### The words -/
set_option maxHeartbeats 1000000 in
theorem filter_any (b f wd sh z gh n c : Nat) (H At Bt : Nat → Nat) (w : World) (hz : z = 4 ∨ z = 8) (hw : 1 ≤ wd) (hw2 : wd ≤ 1024) (hs : sh ≤ 31) (hH : ∀ i, i < n → H i < 4294967296)
  (hAt : ∀ i, i < n → H i / (8 * z) % wd = At i) (hBt : ∀ i, i < n → (2 ^ (H i % (8 * z)) ||| 2 ^ (H i / 2 ^ sh % (8 * z))) = Bt i) (hr : w.rowIs gh 36 n (ivlB .u32 H)) (hn : n ≤ 1000) (_hnc : n ≤ c) :
  Calls Tryz.prog 29 #[.agg (shC b f wd sh z), .slice (some ⟨gh, 0, none⟩) n c] w fun e w' => ∃ g, e = .returned (.slice (some ⟨g, 0, none⟩) wd wd) ∧ w.heap.size ≤ g ∧ w'.rowIs g 37 wd (ivlB .u64 (wdTo At Bt n)) ∧ Grow w w' := by
 have hmk : ∀ W : World, (Instr.makeSlice 30 (.int .u64 (wd : Int)) (.int .u64 (wd : Int))).run Tryz.prog W = .ok (.slice (some ⟨W.heap.size, 0, none⟩) wd wd) (W.alloc (.cells (madeCells #[.int .u64 0] wd) 37)) :=
  fun W => run_make_row' 30 37 (.int .u64 0) 8 Tryz.underlying30 (by kernel_rfl) rfl _ _ wd (by omega) (by omega) W
 have HA := hid hAt
 have HBt := hid hBt
 have HH := hid hH
 have HRH := hid hr
 have HZ := hid hz
 have HW := hid hw
 have HSh := hid hs
 have HAl : Hid (∀ i, i < n → At i < wd) := hid fun i hi => by rw [← hAt i hi]; exact Nat.mod_lt _ (by omega)
 have HBl : Hid (∀ i, i < n → Bt i < 2 ^ 64) := hid fun i hi => by
  rw [← hBt i hi]
  exact Nat.or_lt_two_pow (Nat.pow_lt_pow_right (by decide) (by have := Nat.mod_lt (H i) (show 0 < 8 * z by omega); omega)) (Nat.pow_lt_pow_right (by decide) (by have := Nat.mod_lt (H i / 2 ^ sh) (show 0 < 8 * z by omega); omega))
 have hgl := hr.lt
 unfold shC
 clear hAt hBt hH hr hz hs
 go_enter Tryz.func29, Tryz.ntmps29
 go_wp2
 generalize hW0 : World.alloc _ _ = W0
 obtain ⟨G, hG⟩ : ∃ G, G = w.heap.size := ⟨_, rfl⟩
 have HG := hid hG
 have HBox : Hid (Blk W0 G 80 #[.int .u64 (b : Int), .int .u64 (f : Int), .int .u64 (wd : Int), .int .u64 (sh : Int), .int .u64 (z : Int)]) := hid (by rw [← hW0, hG]; exact (Blk.new _ _ _).alloc _)
 have HRow : Hid (W0.rowIs (G + 1) 37 wd (ivlB .u64 (wdTo At Bt 0))) := hid (by
  have := World.rowIs_made (w.alloc (.cells #[.int .u64 (b : Int), .int .u64 (f : Int), .int .u64 (wd : Int), .int .u64 (sh : Int), .int .u64 (z : Int)] 80)) (.int .u64 0) wd 37
  rw [hW0] at this
  rw [show (w.alloc (.cells #[.int .u64 (b : Int), .int .u64 (f : Int), .int .u64 (wd : Int), .int .u64 (sh : Int), .int .u64 (z : Int)] 80)).heap.size = G + 1 by simp [hG]] at this
  exact this.congr fun i _ => by simp [ivlB, wdTo])
 have HGr : Hid (Below G w W0) := hid (by rw [← hW0, hG]; exact (Grow.of_alloc _ _).trans (Grow.of_alloc _ _))
 have HSz : Hid (G + 1 < W0.heap.size) := hid (by rw [← hW0, hG]; simp)
 rw [← hG] at hgl ⊢
 clear hmk hW0 hG hw
 go_loopw [15] (fun i wr => ∃ k : Nat, k ≤ n ∧ i = .int .i64 k ∧ wr.rowIs (G + 1) 37 wd (ivlB .u64 (wdTo At Bt k)) ∧ Blk wr G 80 #[.int .u64 (b : Int), .int .u64 (f : Int), .int .u64 (wd : Int), .int .u64 (sh : Int), .int .u64 (z : Int)] ∧ Below G w wr ∧ G + 1 < wr.heap.size) (fun i _ => n - (intOf i).toNat)
 case atStart => exact ⟨0, Nat.zero_le _, rfl, HRow.out, HBox.out, HGr.out, HSz.out⟩
 case round =>
  obtain ⟨k, hk, rfl, hrow, hbox, hbel, hsz⟩ := hrel
  have HR := hid hrow
  have HX := hid hbox
  have HL := hid hbel
  have HZs := hid hsz
  clear HRow HBox HGr HSz hrow hbox hbel hsz
  by_cases hlt : k < n
  ·have q : wr.cell? ⟨gh, k, none⟩ = some (.int .u32 (H k : Int)) := (rows_below HRH.out HL.out hgl).cell hlt
   obtain ⟨c0, c1, c2, c3, c4⟩ := HX.out.c5
   have HC := hid (bitsOf_any b f wd sh z (H k) · HZ.out HW.out HSh.out (HH.out k hlt))
   rw [HA.out k hlt, HBt.out k hlt] at HC
   go_wp2_with fail
   refine (HC.out _).mono ?_
   rintro e w' ⟨rfl, hg⟩
   have hrow := rows_grow HR.out hg
   have hal := HAl.out k hlt
   have c5 : w'.cell? ⟨G + 1, At k, none⟩ = some (.int .u64 (wdTo At Bt k (At k) : Int)) := hrow.cell hal
   have f5 := hrow.frozen (At k)
   have hx1 : wdTo At Bt k (At k) < 2 ^ 64 := wdTo_lt k (At k) fun i hi => HBl.out i (by omega)
   have e1 := u64_or_nat (wdTo At Bt k (At k)) (Bt k) hx1 (HBl.out k hlt)
   have HR2 : Hid ((w'.setCell ⟨G + 1, At k, none⟩ (.int .u64 ((wdTo At Bt k (At k) ||| Bt k : Nat) : Int))).rowIs (G + 1) 37 wd (ivlB .u64 (wdTo At Bt (k + 1)))) :=
    hid ((hrow.set (At k) _).congr fun j _ => by simp only [ivlB, wdTo]; split <;> rfl)
   have HX2 := hid ((HX.out.grow hg).cellset (a := ⟨G + 1, At k, none⟩) (by simp) (.int .u64 ((wdTo At Bt k (At k) ||| Bt k : Nat) : Int)))
   have HL2 := hid ((HL.out.trans (hg.mono (by have := HZs.out; omega))).setCell (p := ⟨G + 1, At k, none⟩) (by show G ≤ G + 1; omega) (.int .u64 ((wdTo At Bt k (At k) ||| Bt k : Nat) : Int)))
   have HZ2 := hid (Nat.lt_of_lt_of_le HZs.out hg.size)
   generalize wdTo At Bt k (At k) ||| Bt k = o at e1 HR2 HX2 HL2
   generalize wdTo At Bt k (At k) = x at c5 hx1 e1
   generalize Bt k = y at e1 ⊢
   generalize At k = a at hal c5 f5 HR2 HX2 HL2 ⊢
   have p1 : (a : Int) < (wd : Int) := by omega
   clear hrow hg c0 c1 c2 c3 c4 q hx1 HC
   go_wp2
   go_roundw
   case rel => exact ⟨k + 1, by omega, by go_num, HR2.out, HX2.out, HL2.out, by simpa using HZ2.out⟩
   case measure => simp [intOf]; omega
  ·have e : k = n := by omega
   subst e
   go_wp2
   go_ret
   refine ⟨G + 1, rfl, by rw [← HG.out]; omega, HR.out, ?_⟩
   have := HL.out
   rw [HG.out] at this
   exact this
/-! ### The buckets' first places -/
set_option maxHeartbeats 1000000 in
theorem places_anyB (b f wd sh z gi n c : Nat) (K : Nat → Nat) (w : World) (hb : b ≤ 1024) (hf : f ≤ 65536) (hK : ∀ i, i < n → K i < b) (hr : w.rowIs gi 37 n (ivlB .u64 K)) (hn : n ≤ 1000) (hnc : n ≤ c) (hc : c ≤ maxLen) :
  Calls Tryz.prog 30 #[.agg (shC b f wd sh z), .slice (some ⟨gi, 0, none⟩) n c] w fun e w' => ∃ g, e = .returned (.slice (some ⟨g, 0, none⟩) b b) ∧ w.heap.size ≤ g ∧ w'.rowIs g 37 b (ivlB .u64 (plTo f K n)) ∧ Grow w w' := by
 unfold maxLen at hc
 have hmk : ∀ W : World, (Instr.makeSlice 30 (.int .u64 (b : Int)) (.int .u64 (b : Int))).run Tryz.prog W = .ok (.slice (some ⟨W.heap.size, 0, none⟩) b b) (W.alloc (.cells (madeCells #[.int .u64 0] b) 37)) :=
  fun W => run_make_row' 30 37 (.int .u64 0) 8 Tryz.underlying30 (by kernel_rfl) rfl _ _ b (by omega) (by omega) W
 have HK := hid hK
 have HRI := hid hr
 have hgl := hr.lt
 unfold shC
 clear hK hr
 go_enter Tryz.func30, Tryz.ntmps30
 go_wp2
 generalize hW0 : World.alloc _ _ = W0
 obtain ⟨G, hG⟩ : ∃ G, G = w.heap.size := ⟨_, rfl⟩
 have HG := hid hG
 have HBox : Hid (Blk W0 G 80 #[.int .u64 (b : Int), .int .u64 (f : Int), .int .u64 (wd : Int), .int .u64 (sh : Int), .int .u64 (z : Int)]) := hid (by rw [← hW0, hG]; exact (Blk.new _ _ _).alloc _)
 have HRow : Hid (W0.rowIs (G + 1) 37 b (ivlB .u64 (plTo f K 0))) := hid (by
  have := World.rowIs_made (w.alloc (.cells #[.int .u64 (b : Int), .int .u64 (f : Int), .int .u64 (wd : Int), .int .u64 (sh : Int), .int .u64 (z : Int)] 80)) (.int .u64 0) b 37
  rw [hW0] at this
  rw [show (w.alloc (.cells #[.int .u64 (b : Int), .int .u64 (f : Int), .int .u64 (wd : Int), .int .u64 (sh : Int), .int .u64 (z : Int)] 80)).heap.size = G + 1 by simp [hG]] at this
  exact this.congr fun i _ => by simp [ivlB, plTo])
 have HGr : Hid (Below G w W0) := hid (by rw [← hW0, hG]; exact (Grow.of_alloc _ _).trans (Grow.of_alloc _ _))
 rw [← hG] at hgl ⊢
 clear hmk hW0 hG
 go_loopw [13] (fun i wr => ∃ k : Nat, k ≤ n ∧ i = .int .i64 k ∧ wr.rowIs (G + 1) 37 b (ivlB .u64 (plTo f K k)) ∧ Blk wr G 80 #[.int .u64 (b : Int), .int .u64 (f : Int), .int .u64 (wd : Int), .int .u64 (sh : Int), .int .u64 (z : Int)] ∧ Below G w wr) (fun i _ => n - (intOf i).toNat)
 case atStart => exact ⟨0, Nat.zero_le _, rfl, HRow.out, HBox.out, HGr.out⟩
 case round =>
  obtain ⟨k, hk, rfl, hrow, hbox, hbel⟩ := hrel
  have HR := hid hrow
  have HX := hid hbox
  have HL := hid hbel
  clear HRow HBox HGr hrow hbox hbel
  by_cases hlt : k < n
  ·have q : wr.cell? ⟨gi, k, none⟩ = some (.int .u64 (K k : Int)) := (rows_below HRI.out HL.out hgl).cell hlt
   obtain ⟨c0, c1, c2, c3, c4⟩ := HX.out.c5
   have hal := HK.out k hlt
   have c5 : wr.cell? ⟨G + 1, K k, none⟩ = some (.int .u64 (plTo f K k (K k) : Int)) := HR.out.cell hal
   have f5 := HR.out.frozen (K k)
   have HR2 := hid (HR.out.set (K k) (.int .u64 ((f + k : Nat) : Int)))
   have HX2 := hid (HX.out.cellset (a := ⟨G + 1, K k, none⟩) (by simp) (.int .u64 ((f + k : Nat) : Int)))
   have HL2 := hid (HL.out.setCell (p := ⟨G + 1, K k, none⟩) (by show G ≤ G + 1; omega) (.int .u64 ((f + k : Nat) : Int)))
   have e0 : ((f + k : Nat) : Int) = (f : Int) + (k : Int) := by omega
   have e1 : IntKind.u64.wrap ((f : Int) + (k : Int)) = (f : Int) + (k : Int) := by rw [IntKind.wrap_u64]; omega
   have e2 : IntKind.u64.wrap (k : Int) = (k : Int) := by rw [IntKind.wrap_u64]; omega
   have p1 : ((K k : Nat) : Int) < (b : Int) := by omega
   by_cases hx : plTo f K k (K k) = 0
   ·have HR3 : Hid ((wr.setCell ⟨G + 1, K k, none⟩ (.int .u64 ((f : Int) + (k : Int)))).rowIs (G + 1) 37 b (ivlB .u64 (plTo f K (k + 1)))) := hid (by
     rw [← e0]
     refine HR2.out.congr fun j _ => ?_
     simp only [ivlB, plTo, if_pos hx]
     split <;> rfl)
    rw [e0] at HX2 HL2
    rw [hx] at c5
    clear hx HR2 e0
    generalize K k = a at hal q c5 f5 p1 HR3 HX2 HL2
    go_wp2
    go_roundw
    case rel => exact ⟨k + 1, by omega, by go_num, HR3.out, HX2.out, HL2.out⟩
    case measure => simp [intOf]; omega
   ·have HR3 : Hid (wr.rowIs (G + 1) 37 b (ivlB .u64 (plTo f K (k + 1)))) := hid (by
     refine HR.out.congr fun j _ => ?_
     simp only [ivlB, plTo, if_neg hx]
     split
     ·rename_i e; rw [e]
     ·rfl)
    have hz : (((plTo f K k (K k) : Nat) : Int) == 0) = false := by simp; exact hx
    generalize plTo f K k (K k) = x at c5 hx hz
    generalize K k = a at hal q c5 f5 p1
    clear HR2 HX2 HL2 e0
    go_wp2
    go_roundw
    case rel => exact ⟨k + 1, by omega, by go_num, HR3.out, HX.out, HL.out⟩
    case measure => simp [intOf]; omega
  ·have e : k = n := by omega
   subst e
   go_wp2
   go_ret
   refine ⟨G + 1, rfl, by rw [← HG.out]; omega, HR.out, ?_⟩
   have := HL.out
   rw [HG.out] at this
   exact this
end Go.Proofs.YtfbimboemahhhaaGreatDoor
